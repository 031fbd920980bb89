/- The walk of the program's Lex. -/
import Derived.Test.YtlmaphaipcfppaaGreatDoorTokenCut
import Derived.Test.YtlmaphaipcfppaaGreatDoorTokenRow
import Derived.OwnWalk
import Derived.Laws.AppendOwn
namespace Go.Proofs.YtlmaphaipcfppaaGreatDoor
open Go.RowKit
namespace Token
open Chars (ret_i64 ret_bool ret_u8 cls el isin run spanI BytesAt Bytes bytes_new)
open Words (KwLaid NumLaid Laid2 NumEnd numV numB kwN nameB exnB)

set_option maxRecDepth 100000 in
set_option maxHeartbeats 3200000 in
theorem lex_walk (p : Option Addr) (n d : Nat) (xs : List Int) (w : World) (hb : BytesIn w p n d xs) (hl : Laid2 w) :
    Calls Tryz.prog 32 #[.slice p n d] w fun e w' => LexEnd xs w e w' := by
  have hn := hb.1
  have hnl := hb.len.1
  have HX := Lib.hid hn
  have HB := Lib.hid hb; have HL := Lib.hid hl
  clear hb hl hn
  by_cases hbig : 65536 < n
  · have hbi : (65536 : Int) < (n : Int) := by omega
    have HBI := Lib.hid hbig
    clear hbig
    go_enter Tryz.func32, Tryz.ntmps32
    go_wp2
    refine bodyPost_ret (v := .tuple #[.slice none 0 0, .int .i64 0, .int .i64 3]) (by simp [results, Tryz.results32, go_sem]) rfl ⟨Below.refl _ _, .inl ⟨by rw [HX.out]; exact HBI.out, _, _, rfl⟩⟩
  have hn : n ≤ 65536 := by omega
  obtain ⟨i0, hi, hz0, hz1, hz2⟩ := info_parts infoTok
  have HI := Lib.hid hi; have HZ0 := Lib.hid hz0; have HZ1 := Lib.hid hz1; have HZ2 := Lib.hid hz2
  have hni : (n : Int) ≤ 65536 := by omega
  have HN := Lib.hid hn
  clear hi hz0 hz1 hz2 hbig hn
  go_enter Tryz.func32, Tryz.ntmps32
  go_wp2_with (fail)
  refine (skip_walk p n d 0 xs _ HB.out (Nat.zero_le _)).mono ?_
  rintro e w1 ⟨rfl, hb1⟩
  have HB1 := Lib.hid hb1; clear hb1
  obtain ⟨k0, hk0⟩ : ∃ k0, k0 = 0 + run [1] (xs.drop 0) := ⟨_, rfl⟩
  rw [← hk0]
  have hk0n : k0 ≤ n := by rw [hk0, ← HX.out]; exact run_at_le [1] xs 0 (Nat.zero_le _)
  have hlex0 : lex xs 0 = pre [] (lex (xs.drop k0) k0) ∧ (xs.drop k0 ≠ [] → cls (el (xs.drop k0) 0) ≠ 1) := by
    have h1 := lex_skip _ xs 0 rfl
    have h2 := skip_edge xs
    rw [List.drop_zero, Nat.zero_add] at hk0
    rw [pre_nil, hk0]
    exact ⟨by rw [h1, Nat.zero_add], h2⟩
  have H0 := Lib.hid hlex0
  have HK0 := Lib.hid hk0
  clear hlex0 hk0
  go_wp2
  go_loopw [5, 6] (fun v i wr => ∃ (k : Nat) (ts : List Tok), k ≤ n ∧ i = .int .i64 k ∧ ts.length ≤ k ∧ wr.ownsRow w.heap.size 48 3 v ts.length (tcells ts) ∧ Below w.heap.size w wr ∧ lex xs 0 = pre ts (lex (xs.drop k) k) ∧ (xs.drop k ≠ [] → cls (el (xs.drop k) 0) ≠ 1)) (fun _ i _ => n - (intOf i).toNat)
  case atStart => exact ⟨k0, [], hk0n, rfl, by simp, World.ownsRow_nil _ _ _ _, HB1.out, H0.out.1, H0.out.2⟩
  case round =>
    obtain ⟨k, ts, hk, rfl, hts, hown, hbw, hlx, hed⟩ := hrel
    have HOWN := Lib.hid hown; have HBW := Lib.hid hbw; have HLX := Lib.hid hlx; have HED := Lib.hid hed
    clear hown hbw hlx hed
    by_cases hlt : k < n
    · have hne : xs.drop k ≠ [] := fun e => by have := drop_len xs k n HX.out; rw [e] at this; simp at this; omega
      have HNE := Lib.hid hne; clear hne
      go_wp2_with (fail)
      refine (cut_walk p n d k xs _ (HB.out.below HBW.out) hlt HN.out (HL.out.below HBW.out)).mono ?_
      rintro e w2 ⟨⟨T, rfl, hT⟩, hb2⟩
      have HB2 := Lib.hid (HBW.out.trans (hb2.mono HBW.out.size))
      have hgr := hb2
      have HT := Lib.hid hT
      clear hT
      clear hb2
      by_cases hK : pieceK (xs.drop k) = 0
      · have hlex : lex xs 0 = .inl k := by rw [HLX.out, lex_bad _ _ HNE.out (HED.out HNE.out) hK]; rfl
        have HLE := Lib.hid hlex
        rw [hK]
        clear hK hlex
        go_wp2
        refine bodyPost_ret (v := .tuple #[.slice none 0 0, .int .i64 k, .int .i64 2]) (by simp [results, Tryz.results32, go_sem]) rfl ⟨?_, .inr (.inl ⟨by rw [HX.out]; exact HN.out, _, _, k, HLE.out, rfl⟩)⟩
        exact HB2.out.alloc HB2.out.size _
      · have hlex := HLX.out
        rw [lex_tok _ _ HNE.out hK, pre_pre] at hlex
        have hTe := HT.out hK
        have hKb : (pieceK (xs.drop k) == 0) = false := by simpa using hK
        have hp := pieceN_pos _ HNE.out
        have hdl := drop_len xs k n HX.out
        have hTs : T.size = pieceN (xs.drop k) := by rw [hTe, strOfNums_size, List.length_take]; omega
        have htok : tcell (tokAt (xs.drop k) k) = [.int .u8 (pieceK (xs.drop k)), .string T, .int .i64 k] := by unfold tcell tokAt; rw [← hTe]
        have hTn : k + T.size ≤ n := by omega
        have hTp : 0 < T.size := by omega
        rw [← hTs] at hlex
        obtain ⟨K, hKK⟩ : ∃ K, K = pieceK (xs.drop k) := ⟨_, rfl⟩
        rw [← hKK] at hKb htok ⊢
        have HLE := Lib.hid hlex; have HTS := Lib.hid hTs; have HTK := Lib.hid htok
        clear hlex hK hTe hp hdl hTs htok hKK HT
        have HO2 := Lib.hid (own_below HOWN.out hgr)
        have hBs : w.heap.size ≤ w2.heap.size := HB2.out.size
        have HBS := Lib.hid hBs
        have hts' : ts.length ≤ 65536 := by have := HN.out; omega
        have HTS2 := Lib.hid hts'
        clear hgr hBs hts'
        go_wp2_with (at_builtin; refine wpList_append_own _ rfl (.tmp 24) (.tmp 26) 24 rfl w.heap.size 48 i0 (.agg #[.int .u8 0, .string ⟨#[]⟩, .int .i64 0]) 3 32 Tryz.underlying24 HI.out HZ0.out HZ1.out HZ2.out rfl (by decide) _ _ _ rfl ((HO2.out.alloc _).alloc _) ⟨w2.heap.size + 1, 0, none⟩ 1 1 [.int .u8 K, .string T, .int .i64 k] rfl rfl (by rw [show w2.heap.size + 1 = (w2.alloc (.cells #[.int .u8 K, .string T, .int .i64 k] 48)).heap.size from by simp]; exact three_new _ _ _ _ _) (by intro u hu; simp at hu; rcases hu with rfl | rfl | rfl <;> rfl) (by have := HTS2.out; unfold maxLen; omega) (by have := HTS2.out; omega) (by have := HBS.out; simp; omega) ?_; intro v3 w3 hown3 hgrow3 hnil3; have AFT := Lib.hid (after_append HBS.out HB2.out HO2.out hgrow3); have HO3 := Lib.hid hown3; have c1 := AFT.out.2; clear hown3 hgrow3 hnil3)
        refine (skip_walk p n d (k + T.size) xs _ (HB.out.below AFT.out.1) hTn).mono ?_
        rintro e w4 ⟨rfl, hb4⟩
        have HB4 := Lib.hid (AFT.out.1.trans (hb4.mono AFT.out.1.size))
        have HO4 := Lib.hid (own_below HO3.out hb4)
        obtain ⟨k', hk'⟩ : ∃ k', k' = k + T.size + run [1] (xs.drop (k + T.size)) := ⟨_, rfl⟩
        rw [← hk']
        have hk'n : k' ≤ n := by rw [hk', ← HX.out]; exact run_at_le [1] xs (k + T.size) (by rw [HX.out]; exact hTn)
        have hk'p : k < k' := by omega
        have HK' := Lib.hid hk'
        clear hb4 hk' c1
        go_wp2
        go_roundw
        case rel =>
          refine ⟨k', ts ++ [tokAt (xs.drop k) k], hk'n, rfl, ?_, ?_, HB4.out, ?_, ?_⟩
          · rw [List.length_append]; simp; omega
          · rw [List.length_append, tcells_snoc, HTK.out]; exact HO4.out
          · rw [HLE.out, List.drop_drop, lex_skip _ (xs.drop (k + T.size)) _ rfl, HK'.out, List.drop_drop]
          · have := skip_edge (xs.drop (k + T.size))
            rw [List.drop_drop, ← HK'.out] at this
            exact this
        case measure => simp [intOf]; omega
    · obtain rfl : k = n := by omega
      have hlex : lex xs 0 = .inr ts := by rw [HLX.out, List.drop_eq_nil_of_le (by rw [HX.out]; exact Nat.le_refl _), lex_nil]; simp [pre]
      have HLE := Lib.hid hlex
      have hBs : w.heap.size ≤ wr.heap.size := HBW.out.size
      have HBS := Lib.hid hBs
      clear hBs hlex
      go_wp2_with (at_builtin; refine wpList_append_own _ rfl (.tmp 35) (.tmp 39) 24 rfl w.heap.size 48 i0 (.agg #[.int .u8 0, .string ⟨#[]⟩, .int .i64 0]) 3 32 Tryz.underlying24 HI.out HZ0.out HZ1.out HZ2.out rfl (by decide) _ _ _ rfl (HOWN.out.alloc _) ⟨wr.heap.size, 0, none⟩ 1 1 [.int .u8 6, .string ⟨#[]⟩, .int .i64 k] rfl rfl (three_new _ _ _ _ _) (by intro u hu; simp at hu; rcases hu with rfl | rfl | rfl <;> rfl) (by have := HN.out; unfold maxLen; omega) (by have := HN.out; omega) (by have := HBS.out; simp; omega) ?_; intro v3 w3 hown3 hgrow3 hnil3; have AFT := Lib.hid ((HBW.out.alloc HBS.out _).grown hgrow3 (by have := HBS.out; simp; omega) (fun q hq => (HOWN.out.lt q hq).1)); have HO3 := Lib.hid hown3; clear hown3 hgrow3 hnil3)
      have ho : w3.ownsRow w.heap.size 48 3 v3 (ts ++ [endT k]).length (tcells (ts ++ [endT k])) := by
        rw [List.length_append, tcells_snoc]; exact HO3.out
      obtain ⟨g, c, rfl, hat, hcn, hcm⟩ := toks_of_own ho (by rw [List.length_append]; simp)
      have hlen : (ts ++ [endT k]).length = ts.length + 1 := by rw [List.length_append]; rfl
      refine bodyPost_ret (v := .tuple #[.slice (some ⟨g, 0, none⟩) (ts.length + 1) c, .int .i64 0, .int .i64 0]) (by simp [results, Tryz.results32, go_sem]) rfl ⟨AFT.out, .inr (.inr ⟨by rw [HX.out]; exact HN.out, ts, g, c, HLE.out, rfl, ?_⟩)⟩
      rw [HX.out]
      exact ⟨hat, by rw [hlen] at hcn; exact hcn, hcm⟩
end Token
end Go.Proofs.YtlmaphaipcfppaaGreatDoor
