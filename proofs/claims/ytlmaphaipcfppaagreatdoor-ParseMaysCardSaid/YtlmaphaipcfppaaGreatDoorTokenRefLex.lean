/- The walk of the document's Lex. -/
import Derived.Test.YtlmaphaipcfppaaGreatDoorTokenLex
import Derived.Test.YtlmaphaipcfppaaGreatDoorTokenTake2
namespace Go.Proofs.YtlmaphaipcfppaaGreatDoor
open Go.RowKit
set_option linter.unusedVariables false
namespace Token
open Chars (ret_i64 ret_bool ret_u8 cls el isin run spanI BytesAt Bytes bytes_new)
open Words (KwLaid NumLaid Laid2 NumEnd numV numB kwN nameB exnB)

set_option maxRecDepth 100000 in
set_option maxHeartbeats 6400000 in
theorem refLex_walk (p : Option Addr) (n d : Nat) (xs : List Int) (w : World) (hb : BytesIn w p n d xs) :
    Calls Tryz.prog 15 #[.slice p n d] w fun e w' => LexEnd xs w e w' := by
  have hn := hb.1
  have hnl := hb.len.1
  have HX := Lib.hid hn
  have HB := Lib.hid hb
  clear hb hn
  by_cases hbig : 65536 < n
  · have hbi : (65536 : Int) < (n : Int) := by omega
    have HBI := Lib.hid hbig
    clear hbig
    go_enter Tryz.func15, Tryz.ntmps15
    go_wp2
    refine bodyPost_ret (v := .tuple #[.slice (some ⟨w.heap.size, 0, none⟩) 0 0, .int .i64 0, .int .i64 3]) (by simp [results, Tryz.results15, go_sem]) rfl ⟨(Below.refl _ _).alloc (Nat.le_refl _) _, .inl ⟨by rw [HX.out]; exact HBI.out, _, _, rfl⟩⟩
  have hn : n ≤ 65536 := by omega
  obtain ⟨i0, hi, hz0, hz1, hz2⟩ := info_parts infoTok
  have HI := Lib.hid hi; have HZ0 := Lib.hid hz0; have HZ1 := Lib.hid hz1; have HZ2 := Lib.hid hz2
  have hni : (n : Int) ≤ 65536 := by omega
  have HN := Lib.hid hn
  have hm := World.ownsRow_made (w := w) (base := w.heap.size) (e := 48) (size := 3) #[] 0 (Nat.le_refl _) (by unfold maxLen; omega) rfl
  have HM := Lib.hid hm
  clear hi hz0 hz1 hz2 hbig hn hm
  go_enter Tryz.func15, Tryz.ntmps15
  go_wp2
  go_loopw [5, 6, 7, 8] (fun v i _ _ wr => ∃ (k : Nat) (ts : List Tok), k ≤ n ∧ i = .int .i64 k ∧ ts.length ≤ k ∧ wr.ownsRow w.heap.size 48 3 v ts.length (tcells ts) ∧ Below w.heap.size w wr ∧ lex xs 0 = pre ts (lex (xs.drop k) k)) (fun _ i _ _ _ => n - (intOf i).toNat)
  case atStart => exact ⟨0, [], Nat.zero_le _, rfl, by simp, HM.out, (Below.refl _ _).alloc (Nat.le_refl _) _, by rw [pre_nil, List.drop_zero]⟩
  case round =>
    obtain ⟨k, ts, hk, rfl, hts, hown, hbw, hlx⟩ := hrel
    have HOWN := Lib.hid hown; have HBW := Lib.hid hbw; have HLX := Lib.hid hlx
    clear hown hbw hlx
    by_cases hlt : k < n
    · have hne : xs.drop k ≠ [] := fun e => by have := drop_len xs k n HX.out; rw [e] at this; simp at this; omega
      have HNE := Lib.hid hne; clear hne
      obtain ⟨b, o, hx⟩ := ctx_of (HB.out.below HBW.out) hlt
      obtain rfl := hx.hp
      have ck := hx.cell _ (Below.refl _ _) k hlt
      have B0 := Lib.hid hx.byte.1; have B1 := Lib.hid hx.byte.2
      have hel : el (xs.drop k) 0 = el xs k := by rw [Chars.el_drop, Nat.add_zero]
      have HEL := Lib.hid hel
      clear hx hel
      by_cases hc : cls (el xs k) = 1
      · have HC := Lib.hid hc; clear hc
        go_wp2_with (fail)
        refine (Chars.refClass_walk _ B0.out B1.out _).mono ?_
        rw [HC.out]
        rintro e w2 ⟨rfl, hb2⟩
        have HB2 := Lib.hid (HBW.out.trans (hb2.mono HBW.out.size))
        have HO2 := Lib.hid (own_below HOWN.out hb2)
        clear hb2 ck
        go_wp2
        go_roundw
        case rel =>
          refine ⟨k + 1, ts, by omega, by go_num, by omega, HO2.out, HB2.out, ?_⟩
          rw [HLX.out, lex_blank _ _ HNE.out (by rw [HEL.out]; exact HC.out), List.drop_drop]
        case measure => simp [intOf]; omega
      · have hcb : (cls (el xs k) == 1) = false := by simpa using hc
        have HC := Lib.hid hc; clear hc
        go_wp2_with (fail)
        refine (Chars.refClass_walk _ B0.out B1.out _).mono ?_
        rintro e w2 ⟨rfl, hb2⟩
        have HB2 := Lib.hid (HBW.out.trans (hb2.mono HBW.out.size))
        have HO2 := Lib.hid (own_below HOWN.out hb2)
        clear hb2 ck
        go_wp2_with (fail)
        refine (take_walk _ n d k xs _ (HB.out.below HB2.out) hlt HN.out).mono ?_
        rintro e w3 ⟨⟨T, rfl, hT⟩, hb3⟩
        have HB3 := Lib.hid (HB2.out.trans (hb3.mono HB2.out.size))
        have HO3 := Lib.hid (own_below HO2.out hb3)
        have HT := Lib.hid hT
        clear hT hb3
        by_cases hK : pieceK (xs.drop k) = 0
        · have hlex : lex xs 0 = .inl k := by rw [HLX.out, lex_bad _ _ HNE.out (by rw [HEL.out]; exact HC.out) hK]; rfl
          have HLE := Lib.hid hlex
          rw [hK]
          clear hK hlex
          go_wp2
          refine bodyPost_ret (v := .tuple #[.slice (some ⟨w3.heap.size, 0, none⟩) 0 0, .int .i64 k, .int .i64 2]) (by simp [results, Tryz.results15, go_sem]) rfl ⟨?_, .inr (.inl ⟨by rw [HX.out]; exact HN.out, _, _, k, HLE.out, rfl⟩)⟩
          exact HB3.out.alloc HB3.out.size _
        · have hlex := HLX.out
          rw [lex_tok _ _ HNE.out hK, pre_pre] at hlex
          have hTe := HT.out hK
          have hKb : (pieceK (xs.drop k) == 0) = false := by simpa using hK
          have hp := pieceN_pos _ HNE.out
          have hdl := drop_len xs k n HX.out
          have hTs : T.size = pieceN (xs.drop k) := by rw [hTe, strOfNums_size, List.length_take]; omega
          have htok : tcell (tokAt (xs.drop k) k) = [.int .u8 (pieceK (xs.drop k)), .string T, .int .i64 k] := by unfold tcell tokAt; rw [← hTe]
          have hTn : k + T.size ≤ n := by omega
          have hTp : 0 < T.size := by omega
          rw [← hTs] at hlex
          obtain ⟨K, hKK⟩ : ∃ K, K = pieceK (xs.drop k) := ⟨_, rfl⟩
          rw [← hKK] at hKb htok ⊢
          have HLE := Lib.hid hlex; have HTS := Lib.hid hTs; have HTK := Lib.hid htok
          clear hlex hK hTe hp hdl hTs htok hKK HT
          have hBs : w.heap.size ≤ w3.heap.size := HB3.out.size
          have HBS := Lib.hid hBs
          have hts' : ts.length ≤ 65536 := by have := HN.out; omega
          have HTS2 := Lib.hid hts'
          clear hBs hts'
          go_wp2_with (at_builtin; refine wpList_append_own _ rfl (.tmp 36) (.tmp 41) 24 rfl w.heap.size 48 i0 (.agg #[.int .u8 0, .string ⟨#[]⟩, .int .i64 0]) 3 32 Tryz.underlying24 HI.out HZ0.out HZ1.out HZ2.out rfl (by decide) _ _ _ rfl (HO3.out.alloc _) ⟨w3.heap.size, 0, none⟩ 1 1 [.int .u8 K, .string T, .int .i64 k] rfl rfl (three_new _ _ _ _ _) (by intro u hu; simp at hu; rcases hu with rfl | rfl | rfl <;> rfl) (by have := HTS2.out; unfold maxLen; omega) (by have := HTS2.out; omega) (by have := HBS.out; simp; omega) ?_; intro v4 w4 hown4 hgrow4 hnil4; have AFT := Lib.hid ((HB3.out.alloc HBS.out _).grown hgrow4 (by have := HBS.out; simp; omega) (fun q hq => (HO3.out.lt q hq).1)); have HO4 := Lib.hid hown4; clear hown4 hgrow4 hnil4)
          go_roundw
          case rel =>
            refine ⟨k + T.size, ts ++ [tokAt (xs.drop k) k], hTn, by go_num, ?_, ?_, AFT.out, ?_⟩
            · rw [List.length_append]; simp; omega
            · rw [List.length_append, tcells_snoc, HTK.out]; exact HO4.out
            · rw [HLE.out, List.drop_drop]
          case measure => simp [intOf]; omega
    · obtain rfl : k = n := by omega
      have hlex : lex xs 0 = .inr ts := by rw [HLX.out, List.drop_eq_nil_of_le (by rw [HX.out]; exact Nat.le_refl _), lex_nil]; simp [pre]
      have HLE := Lib.hid hlex
      have hBs : w.heap.size ≤ wr.heap.size := HBW.out.size
      have HBS := Lib.hid hBs
      clear hBs hlex
      go_wp2_with (at_builtin; refine wpList_append_own _ rfl (.tmp 47) (.tmp 51) 24 rfl w.heap.size 48 i0 (.agg #[.int .u8 0, .string ⟨#[]⟩, .int .i64 0]) 3 32 Tryz.underlying24 HI.out HZ0.out HZ1.out HZ2.out rfl (by decide) _ _ _ rfl (HOWN.out.alloc _) ⟨wr.heap.size, 0, none⟩ 1 1 [.int .u8 6, .string ⟨#[]⟩, .int .i64 k] rfl rfl (three_new _ _ _ _ _) (by intro u hu; simp at hu; rcases hu with rfl | rfl | rfl <;> rfl) (by have := HN.out; unfold maxLen; omega) (by have := HN.out; omega) (by have := HBS.out; simp; omega) ?_; intro v3 w3 hown3 hgrow3 hnil3; have AFT := Lib.hid ((HBW.out.alloc HBS.out _).grown hgrow3 (by have := HBS.out; simp; omega) (fun q hq => (HOWN.out.lt q hq).1)); have HO3 := Lib.hid hown3; clear hown3 hgrow3 hnil3)
      have ho : w3.ownsRow w.heap.size 48 3 v3 (ts ++ [endT k]).length (tcells (ts ++ [endT k])) := by
        rw [List.length_append, tcells_snoc]; exact HO3.out
      obtain ⟨g, c, rfl, hat, hcn, hcm⟩ := toks_of_own ho (by rw [List.length_append]; simp)
      have hlen : (ts ++ [endT k]).length = ts.length + 1 := by rw [List.length_append]; rfl
      refine bodyPost_ret (v := .tuple #[.slice (some ⟨g, 0, none⟩) (ts.length + 1) c, .int .i64 0, .int .i64 0]) (by simp [results, Tryz.results15, go_sem]) rfl ⟨AFT.out, .inr (.inr ⟨by rw [HX.out]; exact HN.out, ts, g, c, HLE.out, rfl, ?_⟩)⟩
      rw [HX.out]
      exact ⟨hat, by rw [hlen] at hcn; exact hcn, hcm⟩
end Token
end Go.Proofs.YtlmaphaipcfppaaGreatDoor
