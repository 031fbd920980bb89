/-The walks of the document's token at a place. The walk of the document's sign at a place; any token. The walk of the document's Lex. -/
import Derived.Test.YtadpjkehflokcaaGreatDoorGTokA
import Derived.Test.YtadpjkehflokcaaGreatDoorGWordsA
import Derived.Test.YtadpjkehflokcaaGreatDoorGWordsB
namespace Go.Proofs.YtadpjkehflokcaaGreatDoor
open Go.RowKit
set_option linter.unusedVariables false
namespace Token
open Chars (ret_i64 ret_bool ret_u8 cls el isin run spanI BytesAt Bytes bytes_new)
open Words (KwLaid NumLaid Laid2 NumEnd numV numB kwN nameB exnB)

theorem run_below (ys : List Int) : ∀ (xs : List Int) (j : Nat), j < run ys xs → isin ys (cls (el xs j)) = true
  | [], j, h => by rw [run_nil] at h; omega
  | x :: r, j, h => by
    rw [run_cons] at h
    cases hx : isin ys (cls x)
    · rw [hx] at h; simp at h
    · rw [hx] at h
      simp only [if_true] at h
      cases j with
      | zero => exact hx
      | succ j => exact run_below ys r j (by omega)
theorem run_out (ys : List Int) : ∀ xs : List Int, run ys xs < xs.length → isin ys (cls (el xs (run ys xs))) = false
  | [], h => by simp at h
  | x :: r, h => by
    rw [run_cons] at h ⊢
    cases hx : isin ys (cls x)
    · simp only [Bool.false_eq_true, if_false]
      exact hx
    · rw [hx] at h
      simp only [if_true, List.length_cons] at h ⊢
      exact run_out ys r (by omega)

theorem refDigit_walk (c : Int) (h0 : 0 ≤ c) (h1 : c ≤ 255) (w : World) :
    Calls Tryz.prog 113 #[.int .u8 c] w fun e w' => e = .returned (.bool (isin [2] (cls c))) ∧ w = w' := by
  have hd := Words.digit_iff c
  by_cases d : 48 ≤ c ∧ c ≤ 57
  · have hi : isin [2] (cls c) = true := by rw [hd.2 d]; rfl
    have HI := Lib.hid hi
    obtain ⟨d1, d2⟩ := d
    clear hi hd
    go_enter Tryz.func113, Tryz.ntmps113
    go_wp2
    go_ret
    exact ⟨ret_bool HI.out.symm, rfl⟩
  · have hi : isin [2] (cls c) = false := by
      unfold isin
      refine decide_eq_false fun h => d (hd.1 ?_)
      simpa using h
    have HI := Lib.hid hi
    clear hi hd
    by_cases d1 : 48 ≤ c
    · have d2 : ¬ c ≤ 57 := fun h => d ⟨d1, h⟩
      clear d
      go_enter Tryz.func113, Tryz.ntmps113
      go_wp2
      go_ret
      exact ⟨ret_bool HI.out.symm, rfl⟩
    · clear d
      go_enter Tryz.func113, Tryz.ntmps113
      go_wp2
      go_ret
      exact ⟨ret_bool HI.out.symm, rfl⟩

theorem refLetter_walk (c : Int) (h0 : 0 ≤ c) (h1 : c ≤ 255) (w : World) :
    Calls Tryz.prog 115 #[.int .u8 c] w fun e w' => e = .returned (.bool (isin [3, 4] (cls c))) ∧ Below w.heap.size w w' := by
  have hcl := Chars.cls_le c
  have hk : cls c = 0 ∨ cls c = 1 ∨ cls c = 2 ∨ cls c = 3 ∨ cls c = 4 ∨ cls c = 5 := by omega
  clear hcl
  rcases hk with hk | hk | hk | hk | hk | hk
  all_goals
    have HK := Lib.hid hk
    clear hk
    go_enter Tryz.func115, Tryz.ntmps115
    go_wp2_with (fail)
    refine (Chars.refClass_walk c h0 h1 _).mono ?_
    rw [HK.out]
    rintro e w1 ⟨rfl, hb⟩
    have HB := Lib.hid hb; clear hb
    go_wp2
    go_ret
    exact ⟨ret_bool (by rw [HK.out]; decide), HB.out⟩

/-- What take comes to. -/
def TakeEnd (xs : List Int) (e : Ending) : Prop := ∃ s : ByteArray, e = .returned (.tuple #[.string s, .int .u8 (pieceK xs)]) ∧ (pieceK xs ≠ 0 → s = strOfNums (xs.take (pieceN xs)))
theorem takeEnd_mk {xs : List Int} {e : Ending} {K : Int} {s : ByteArray} (hK : K = pieceK xs) (hs : pieceK xs ≠ 0 → s = strOfNums (xs.take (pieceN xs))) (he : e = .returned (.tuple #[.string s, .int .u8 K])) : TakeEnd xs e := by
  subst hK
  exact ⟨s, he, hs⟩

set_option maxRecDepth 100000 in
set_option maxHeartbeats 3200000 in
theorem take_digit (p : Option Addr) (n d k : Nat) (xs : List Int) (w : World) (hb : BytesIn w p n d xs) (hk : k < n) (hn : n ≤ 65536) (h2 : cls (el xs k) = 2) :
    Calls Tryz.prog 81 #[.slice p n d, .int .i64 k] w fun e w' => TakeEnd (xs.drop k) e ∧ Below w.heap.size w w' := by
  have hel : el (xs.drop k) 0 = el xs k := by rw [Chars.el_drop, Nat.add_zero]
  have hK : pieceK (xs.drop k) = digK (strOfNums ((xs.drop k).take (run [2] (xs.drop k)))) := by unfold pieceK; rw [hel, if_pos h2]
  have hN : pieceN (xs.drop k) = run [2] (xs.drop k) := by unfold pieceN; rw [hel, if_pos h2]
  have hrl := run_at_le [2] xs k (by rw [hb.1]; omega)
  have hin := run_below [2] (xs.drop k)
  have hout := run_out [2] (xs.drop k)
  have hsz := str_size (xs.drop k) (run [2] (xs.drop k))
  have hlen : (xs.drop k).length = n - k := by rw [List.length_drop, hb.1]
  rw [hlen] at hout hsz
  rw [hb.1] at hrl
  obtain ⟨b, o, rfl, hc⟩ := BytesAt.cells hb.2.2.2.1 (by rw [hb.1]; omega)
  have hcl : ∀ i, i < n → w.cell? ⟨b, o + i, none⟩ = some (.int .u8 (el xs i)) := fun i hi => hc i (by rw [hb.1]; exact hi)
  have hby : ∀ i, i < n → 0 ≤ el xs i ∧ el xs i ≤ 255 := fun i hi => hb.2.2.2.2.el (by rw [hb.1]; exact hi)
  obtain ⟨R, hR⟩ : ∃ R, R = run [2] (xs.drop k) := ⟨_, rfl⟩
  have hcv := cut_text w b o R (d - k) xs k hc (by rw [hb.1, hR]; exact hrl)
  rw [← hR] at hK hN hrl hin hout hsz
  obtain ⟨T, hT⟩ : ∃ T, T = strOfNums ((xs.drop k).take R) := ⟨_, rfl⟩
  rw [← hT] at hK hcv hsz
  have HK := Lib.hid hK; have HN := Lib.hid hN; have HT := Lib.hid hT; have HIN := Lib.hid hin; have HOUT := Lib.hid hout; have HCL := Lib.hid hcl; have HBY := Lib.hid hby; have HSZ := Lib.hid hsz
  have HNN := Lib.hid hn; have HCV := Lib.hid hcv; have HEL := Lib.hid (Chars.el_drop xs k)
  have hni : (n : Int) ≤ 65536 := by omega
  have hd2 := hb.2.1
  have hdl := hb.len
  have ck := hcl k hk
  have bk := hby k hk
  have B0 := Lib.hid bk.1; have B1 := Lib.hid bk.2
  have hi2 : isin [2] (cls (el xs k)) = true := by rw [h2]; rfl
  have HI2 := Lib.hid hi2
  clear hel hK hN hin hout hlen hcl hby hR hT hc hb hsz hn hcv bk h2 hi2
  go_enter Tryz.func81, Tryz.ntmps81
  go_wp2_with (fail)
  refine (refDigit_walk _ B0.out B1.out _).mono ?_
  rw [HI2.out]
  rintro e w1 ⟨rfl, rfl⟩
  go_wp2
  go_loop [7] (fun i => ∃ j : Nat, j ≤ R ∧ i = .int .i64 ((k + j : Nat) : Int)) (fun i => n - (intOf i).toNat)
  case atStart => exact ⟨0, by omega, rfl⟩
  case round =>
    obtain ⟨j, hj, rfl⟩ := hrel
    by_cases hlt : j < R
    · have hkj : k + j < n := by omega
      have ckj := HCL.out (k + j) hkj
      have bj := HBY.out (k + j) hkj
      have C0 := Lib.hid bj.1; have C1 := Lib.hid bj.2
      have hij : isin [2] (cls (el xs (k + j))) = true := by have := HIN.out j hlt; rw [HEL.out] at this; exact this
      have HIJ := Lib.hid hij
      clear bj hij ck
      go_wp2_with (fail)
      refine (refDigit_walk _ C0.out C1.out _).mono ?_
      rw [HIJ.out]
      rintro e w1 ⟨rfl, rfl⟩
      go_wp2
      go_round
      case rel => exact ⟨j + 1, by omega, by go_num⟩
      case measure => simp [intOf]; omega
    · obtain rfl : j = R := by omega
      have hcv := HCV.out
      by_cases hend : k + j < n
      · have cke := HCL.out (k + j) hend
        have be := HBY.out (k + j) hend
        have C0 := Lib.hid be.1; have C1 := Lib.hid be.2
        have hij : isin [2] (cls (el xs (k + j))) = false := by have := HOUT.out (by omega); rw [HEL.out] at this; exact this
        have HIJ := Lib.hid hij
        clear be hij ck
        go_wp2_with (fail)
        refine (refDigit_walk _ C0.out C1.out _).mono ?_
        rw [HIJ.out]
        rintro e w1 ⟨rfl, rfl⟩
        clear cke
        go_wp2_with (fail)
        refine (Words.refNumber_walk T _ (by have := HSZ.out; have := HNN.out; unfold maxLen; omega)).mono ?_
        rintro e w2 ⟨he, hb2⟩
        unfold NumEnd at he
        have HB2 := Lib.hid hb2
        clear hb2
        cases hnb : numB T.data.toList
        · have hk0 : pieceK (xs.drop k) = 0 := by rw [HK.out]; unfold digK; rw [hnb]; rfl
          rw [hnb] at he
          subst he
          have HK0 := Lib.hid hk0
          clear hnb hk0
          generalize numV T.data.toList = V
          go_wp2
          go_ret2
          exact ⟨takeEnd_mk HK0.out.symm (fun h => absurd HK0.out h) rfl, HB2.out⟩
        · have hk1 : pieceK (xs.drop k) = 1 := by rw [HK.out]; unfold digK; rw [hnb]; rfl
          rw [hnb] at he
          subst he
          have HK1 := Lib.hid hk1
          clear hnb hk1
          generalize numV T.data.toList = V
          go_wp2
          go_ret2
          exact ⟨takeEnd_mk HK1.out.symm (fun _ => by rw [HT.out, HN.out]) rfl, HB2.out⟩
      · clear ck
        go_wp2_with (fail)
        refine (Words.refNumber_walk T _ (by have := HSZ.out; have := HNN.out; unfold maxLen; omega)).mono ?_
        rintro e w2 ⟨he, hb2⟩
        unfold NumEnd at he
        have HB2 := Lib.hid hb2
        clear hb2
        cases hnb : numB T.data.toList
        · have hk0 : pieceK (xs.drop k) = 0 := by rw [HK.out]; unfold digK; rw [hnb]; rfl
          rw [hnb] at he
          subst he
          have HK0 := Lib.hid hk0
          clear hnb hk0
          generalize numV T.data.toList = V
          go_wp2
          go_ret2
          exact ⟨takeEnd_mk HK0.out.symm (fun h => absurd HK0.out h) rfl, HB2.out⟩
        · have hk1 : pieceK (xs.drop k) = 1 := by rw [HK.out]; unfold digK; rw [hnb]; rfl
          rw [hnb] at he
          subst he
          have HK1 := Lib.hid hk1
          clear hnb hk1
          generalize numV T.data.toList = V
          go_wp2
          go_ret2
          exact ⟨takeEnd_mk HK1.out.symm (fun _ => by rw [HT.out, HN.out]) rfl, HB2.out⟩

theorem isin_342 (v : Int) : isin [3, 4, 2] v = (isin [2] v || isin [3, 4] v) := by
  unfold isin
  rw [Bool.eq_iff_iff]
  simp
  omega

set_option maxRecDepth 100000 in
set_option maxHeartbeats 6400000 in
theorem take_letter (p : Option Addr) (n d k : Nat) (xs : List Int) (w : World) (hb : BytesIn w p n d xs) (hk : k < n) (hn : n ≤ 65536) (h2 : ¬ cls (el xs k) = 2) (h3 : cls (el xs k) = 3 ∨ cls (el xs k) = 4) :
    Calls Tryz.prog 81 #[.slice p n d, .int .i64 k] w fun e w' => TakeEnd (xs.drop k) e ∧ Below w.heap.size w w' := by
  have hel : el (xs.drop k) 0 = el xs k := by rw [Chars.el_drop, Nat.add_zero]
  have hK : pieceK (xs.drop k) = letK (strOfNums ((xs.drop k).take (run [3, 4, 2] (xs.drop k)))) := by unfold pieceK; rw [hel, if_neg h2, if_pos h3]
  have hN : pieceN (xs.drop k) = run [3, 4, 2] (xs.drop k) := by unfold pieceN; rw [hel, if_neg h2, if_pos h3]
  have hrl := run_at_le [3, 4, 2] xs k (by rw [hb.1]; omega)
  have hin := run_below [3, 4, 2] (xs.drop k)
  have hout := run_out [3, 4, 2] (xs.drop k)
  have hsz := str_size (xs.drop k) (run [3, 4, 2] (xs.drop k))
  have hlen : (xs.drop k).length = n - k := by rw [List.length_drop, hb.1]
  rw [hlen] at hout hsz
  rw [hb.1] at hrl
  have hn1 := hb.1
  have hby : ∀ i, i < n → 0 ≤ el xs i ∧ el xs i ≤ 255 := fun i hi => hb.2.2.2.2.el (by rw [hb.1]; exact hi)
  obtain ⟨b, o, rfl, hc0⟩ := BytesAt.cells hb.2.2.2.1 (by rw [hb.1]; omega)
  have hc : ∀ W : World, Below w.heap.size w W → ∀ i, i < n → W.cell? ⟨b, o + i, none⟩ = some (.int .u8 (el xs i)) := fun W hW i hi =>
    (hW.cell (p := ⟨b, o + i, none⟩) (World.block_lt_of_cell? w _ (hc0 i (by rw [hn1]; exact hi)))).trans (hc0 i (by rw [hn1]; exact hi))
  obtain ⟨R, hR⟩ : ∃ R, R = run [3, 4, 2] (xs.drop k) := ⟨_, rfl⟩
  have hcv : ∀ W : World, Below w.heap.size w W → (convert 22 9 (.slice (some ⟨b, o + k, none⟩) R (d - k))).run Tryz.prog W = .ok (.string (strOfNums ((xs.drop k).take R))) W := fun W hW =>
    cut_text W b o R (d - k) xs k (fun i hi => hc W hW i (by rw [← hn1]; exact hi)) (by rw [hn1, hR]; exact hrl)
  rw [← hR] at hK hN hrl hin hout hsz
  obtain ⟨T, hT⟩ : ∃ T, T = strOfNums ((xs.drop k).take R) := ⟨_, rfl⟩
  rw [← hT] at hK hcv hsz
  have hsz' : T.size ≤ maxLen := by unfold maxLen; omega
  have HK := Lib.hid hK; have HN := Lib.hid hN; have HT := Lib.hid hT; have HIN := Lib.hid hin; have HOUT := Lib.hid hout; have HCL := Lib.hid hc; have HBY := Lib.hid hby; have HSZ := Lib.hid hsz'
  have HNN := Lib.hid hn; have HCV := Lib.hid hcv; have HEL := Lib.hid (Chars.el_drop xs k)
  have hni : (n : Int) ≤ 65536 := by omega
  have hd2 := hb.2.1
  have hdl := hb.len
  have ck := hc w (Below.refl _ _) k hk
  have bk := hby k hk
  have B0 := Lib.hid bk.1; have B1 := Lib.hid bk.2
  have hi2 : isin [2] (cls (el xs k)) = false := by unfold isin; exact decide_eq_false fun h => h2 (by simpa using h)
  have hi3 : isin [3, 4] (cls (el xs k)) = true := by rcases h3 with h | h <;> rw [h] <;> rfl
  have HI2 := Lib.hid hi2; have HI3 := Lib.hid hi3
  clear hel hK hN hin hout hlen hc hby hR hT hc0 hb hsz hsz' hn hcv bk h2 h3 hi2 hi3 hn1
  go_enter Tryz.func81, Tryz.ntmps81
  go_wp2_with (fail)
  refine (refDigit_walk _ B0.out B1.out _).mono ?_
  rw [HI2.out]
  rintro e w1 ⟨rfl, rfl⟩
  clear ck
  go_wp2_with (fail)
  refine (refLetter_walk _ B0.out B1.out _).mono ?_
  rw [HI3.out]
  rintro e w1 ⟨rfl, hb1⟩
  have HB1 := Lib.hid hb1; clear hb1
  go_wp2
  go_loopw [7] (fun i wr => ∃ j : Nat, j ≤ R ∧ i = .int .i64 ((k + j : Nat) : Int) ∧ Below w.heap.size w wr) (fun i _ => n - (intOf i).toNat)
  case atStart => exact ⟨0, by omega, rfl, HB1.out⟩
  case round =>
    obtain ⟨j, hj, rfl, hw⟩ := hrel
    have HW0 := Lib.hid hw; clear hw
    by_cases hlt : j < R
    · have hkj : k + j < n := by omega
      have ckj := HCL.out _ HW0.out (k + j) hkj
      have bj := HBY.out (k + j) hkj
      have C0 := Lib.hid bj.1; have C1 := Lib.hid bj.2
      have hij : isin [3, 4, 2] (cls (el xs (k + j))) = true := by have := HIN.out j hlt; rw [HEL.out] at this; exact this
      rw [isin_342] at hij
      cases h2 : isin [2] (cls (el xs (k + j)))
      · rw [h2, Bool.false_or] at hij
        have HIJ := Lib.hid hij; have H2 := Lib.hid h2
        clear bj hij h2
        go_wp2_with (fail)
        refine (refDigit_walk _ C0.out C1.out _).mono ?_
        rw [H2.out]
        rintro e w2 ⟨rfl, rfl⟩
        go_wp2_with (fail)
        refine (refLetter_walk _ C0.out C1.out _).mono ?_
        rw [HIJ.out]
        rintro e w2 ⟨rfl, hb2⟩
        have HB2 := Lib.hid (HW0.out.trans (hb2.mono HW0.out.size))
        clear hb2 ckj
        go_wp2
        go_roundw
        case rel => exact ⟨j + 1, by omega, by go_num, HB2.out⟩
        case measure => simp [intOf]; omega
      · have H2 := Lib.hid h2
        clear bj hij h2
        go_wp2_with (fail)
        refine (refDigit_walk _ C0.out C1.out _).mono ?_
        rw [H2.out]
        rintro e w2 ⟨rfl, rfl⟩
        clear ckj
        go_wp2
        go_roundw
        case rel => exact ⟨j + 1, by omega, by go_num, HW0.out⟩
        case measure => simp [intOf]; omega
    · obtain rfl : j = R := by omega
      by_cases hend : k + j < n
      · have cke := HCL.out _ HW0.out (k + j) hend
        have be := HBY.out (k + j) hend
        have C0 := Lib.hid be.1; have C1 := Lib.hid be.2
        have hij : isin [3, 4, 2] (cls (el xs (k + j))) = false := by have := HOUT.out (by omega); rw [HEL.out] at this; exact this
        rw [isin_342, Bool.or_eq_false_iff] at hij
        have HIJ := Lib.hid hij
        clear be hij
        go_wp2_with (fail)
        refine (refDigit_walk _ C0.out C1.out _).mono ?_
        rw [HIJ.out.1]
        rintro e w1 ⟨rfl, rfl⟩
        go_wp2_with (fail)
        refine (refLetter_walk _ C0.out C1.out _).mono ?_
        rw [HIJ.out.2]
        rintro e w2 ⟨rfl, hb2⟩
        have HW := Lib.hid (HW0.out.trans (hb2.mono HW0.out.size))
        have hcv := HCV.out _ HW.out
        clear hb2 cke
        go_wp2_with (fail)
        refine (Words.refKeyword_walk T _).mono ?_
        rintro e w3 ⟨rfl, hb3⟩
        have HB3 := Lib.hid (HW.out.trans (hb3.mono HW.out.size))
        clear hb3 hcv
        by_cases hkw : 0 < kwN T.data.toList
        · have hk4 : pieceK (xs.drop k) = 4 := by rw [HK.out]; unfold letK; rw [if_pos hkw]
          have HK4 := Lib.hid hk4
          have hkw' : (0 : Int) < (kwN T.data.toList : Nat) := by omega
          clear hk4 hkw
          go_wp2
          go_ret2
          exact ⟨takeEnd_mk HK4.out.symm (fun _ => by rw [HT.out, HN.out]) rfl, HB3.out⟩
        have hkw' : ¬ (0 : Int) < (kwN T.data.toList : Nat) := by omega
        have hkl : pieceK (xs.drop k) = if nameB T = true then 2 else if exnB T = true then 3 else 0 := by rw [HK.out]; unfold letK; rw [if_neg hkw]
        have HKL := Lib.hid hkl
        clear hkl hkw
        go_wp2_with (fail)
        refine (Words.refName_walk T _ HSZ.out).mono ?_
        cases hnm : nameB T
        · rintro e w4 ⟨rfl, hb4⟩
          have HB4 := Lib.hid (HB3.out.trans (hb4.mono HB3.out.size))
          have HNM := Lib.hid hnm
          clear hb4 hnm
          go_wp2_with (fail)
          refine (Words.refExn_walk T _ HSZ.out).mono ?_
          cases hex : exnB T
          · rintro e w5 ⟨rfl, hb5⟩
            have hk0 : pieceK (xs.drop k) = 0 := by rw [HKL.out, HNM.out, hex]; rfl
            have HB5 := Lib.hid (HB4.out.trans (hb5.mono HB4.out.size))
            have HK0 := Lib.hid hk0
            clear hb5 hex hk0
            go_wp2
            go_ret2
            exact ⟨takeEnd_mk HK0.out.symm (fun h => absurd HK0.out h) rfl, HB5.out⟩
          · rintro e w5 ⟨rfl, hb5⟩
            have hk0 : pieceK (xs.drop k) = 3 := by rw [HKL.out, HNM.out, hex]; rfl
            have HB5 := Lib.hid (HB4.out.trans (hb5.mono HB4.out.size))
            have HK0 := Lib.hid hk0
            clear hb5 hex hk0
            go_wp2
            go_ret2
            exact ⟨takeEnd_mk HK0.out.symm (fun _ => by rw [HT.out, HN.out]) rfl, HB5.out⟩
        · rintro e w4 ⟨rfl, hb4⟩
          have HB4 := Lib.hid (HB3.out.trans (hb4.mono HB3.out.size))
          have hk0 : pieceK (xs.drop k) = 2 := by rw [HKL.out, hnm]; rfl
          have HK0 := Lib.hid hk0
          clear hb4 hnm hk0
          go_wp2
          go_ret2
          exact ⟨takeEnd_mk HK0.out.symm (fun _ => by rw [HT.out, HN.out]) rfl, HB4.out⟩
      · have HW := HW0
        have hcv := HCV.out _ HW.out
        go_wp2_with (fail)
        refine (Words.refKeyword_walk T _).mono ?_
        rintro e w3 ⟨rfl, hb3⟩
        have HB3 := Lib.hid (HW.out.trans (hb3.mono HW.out.size))
        clear hb3 hcv
        by_cases hkw : 0 < kwN T.data.toList
        · have hk4 : pieceK (xs.drop k) = 4 := by rw [HK.out]; unfold letK; rw [if_pos hkw]
          have HK4 := Lib.hid hk4
          have hkw' : (0 : Int) < (kwN T.data.toList : Nat) := by omega
          clear hk4 hkw
          go_wp2
          go_ret2
          exact ⟨takeEnd_mk HK4.out.symm (fun _ => by rw [HT.out, HN.out]) rfl, HB3.out⟩
        have hkw' : ¬ (0 : Int) < (kwN T.data.toList : Nat) := by omega
        have hkl : pieceK (xs.drop k) = if nameB T = true then 2 else if exnB T = true then 3 else 0 := by rw [HK.out]; unfold letK; rw [if_neg hkw]
        have HKL := Lib.hid hkl
        clear hkl hkw
        go_wp2_with (fail)
        refine (Words.refName_walk T _ HSZ.out).mono ?_
        cases hnm : nameB T
        · rintro e w4 ⟨rfl, hb4⟩
          have HB4 := Lib.hid (HB3.out.trans (hb4.mono HB3.out.size))
          have HNM := Lib.hid hnm
          clear hb4 hnm
          go_wp2_with (fail)
          refine (Words.refExn_walk T _ HSZ.out).mono ?_
          cases hex : exnB T
          · rintro e w5 ⟨rfl, hb5⟩
            have hk0 : pieceK (xs.drop k) = 0 := by rw [HKL.out, HNM.out, hex]; rfl
            have HB5 := Lib.hid (HB4.out.trans (hb5.mono HB4.out.size))
            have HK0 := Lib.hid hk0
            clear hb5 hex hk0
            go_wp2
            go_ret2
            exact ⟨takeEnd_mk HK0.out.symm (fun h => absurd HK0.out h) rfl, HB5.out⟩
          · rintro e w5 ⟨rfl, hb5⟩
            have hk0 : pieceK (xs.drop k) = 3 := by rw [HKL.out, HNM.out, hex]; rfl
            have HB5 := Lib.hid (HB4.out.trans (hb5.mono HB4.out.size))
            have HK0 := Lib.hid hk0
            clear hb5 hex hk0
            go_wp2
            go_ret2
            exact ⟨takeEnd_mk HK0.out.symm (fun _ => by rw [HT.out, HN.out]) rfl, HB5.out⟩
        · rintro e w4 ⟨rfl, hb4⟩
          have HB4 := Lib.hid (HB3.out.trans (hb4.mono HB3.out.size))
          have hk0 : pieceK (xs.drop k) = 2 := by rw [HKL.out, hnm]; rfl
          have HK0 := Lib.hid hk0
          clear hb4 hnm hk0
          go_wp2
          go_ret2
          exact ⟨takeEnd_mk HK0.out.symm (fun _ => by rw [HT.out, HN.out]) rfl, HB4.out⟩
end Token
end Go.Proofs.YtadpjkehflokcaaGreatDoor
namespace Go.Proofs.YtadpjkehflokcaaGreatDoor
open Go.RowKit
set_option linter.unusedVariables false
namespace Token
open Chars (ret_i64 ret_bool ret_u8 cls el isin run spanI BytesAt Bytes bytes_new)
open Words (KwLaid NumLaid Laid2 NumEnd numV numB kwN nameB exnB)

theorem el_next (xs : List Int) (k : Nat) : el (xs.drop k) 1 = el xs (k + 1) := Chars.el_drop xs k 1
/-- Where a sign of two bytes stands, or none. -/
theorem two_at (xs : List Int) (k n : Nat) (hn : xs.length = n) :
    two (xs.drop k) = decide (k + 1 < n ∧ ((el xs k = 58 ∧ el xs (k + 1) = 61) ∨ (el xs k = 61 ∧ el xs (k + 1) = 62))) := by
  unfold two
  rw [el_next, Chars.el_drop, Nat.add_zero, List.length_drop, hn, decide_eq_decide]
  exact ⟨fun h => ⟨by omega, h.2⟩, fun h => ⟨by omega, h.2⟩⟩

/-- What the walk of a sign is given of each way. -/
structure Ctx (p : Option Addr) (n d k b o : Nat) (xs : List Int) (w : World) : Prop where
  hp : p = some ⟨b, o, none⟩
  cell : ∀ W : World, Below w.heap.size w W → ∀ i, i < n → W.cell? ⟨b, o + i, none⟩ = some (.int .u8 (el xs i))
  one : ∀ W : World, Below w.heap.size w W → (convert 22 9 (.slice (some ⟨b, o + k, none⟩) 1 (d - k))).run Tryz.prog W = .ok (.string (strOfNums ((xs.drop k).take 1))) W
  twob : k + 1 < n → ∀ W : World, Below w.heap.size w W → (convert 22 9 (.slice (some ⟨b, o + k, none⟩) 2 (d - k))).run Tryz.prog W = .ok (.string (strOfNums ((xs.drop k).take 2))) W
  len : xs.length = n
  room : n ≤ d ∧ n ≤ 9223372036854775807 ∧ d ≤ 9223372036854775807
  byte : 0 ≤ el xs k ∧ el xs k ≤ 255
theorem ctx_of {p : Option Addr} {n d k : Nat} {xs : List Int} {w : World} (hb : BytesIn w p n d xs) (hk : k < n) : ∃ b o, Ctx p n d k b o xs w := by
  obtain ⟨b, o, hp, hc0⟩ := BytesAt.cells hb.2.2.2.1 (by rw [hb.1]; omega)
  have hc : ∀ W : World, Below w.heap.size w W → ∀ i, i < n → W.cell? ⟨b, o + i, none⟩ = some (.int .u8 (el xs i)) := fun W hW i hi =>
    (hW.cell (p := ⟨b, o + i, none⟩) (World.block_lt_of_cell? w _ (hc0 i (by rw [hb.1]; exact hi)))).trans (hc0 i (by rw [hb.1]; exact hi))
  exact ⟨b, o, hp, hc, fun W hW => cut_text W b o 1 (d - k) xs k (fun i hi => hc W hW i (by rw [← hb.1]; exact hi)) (by rw [hb.1]; omega),
    fun h W hW => cut_text W b o 2 (d - k) xs k (fun i hi => hc W hW i (by rw [← hb.1]; exact hi)) (by rw [hb.1]; omega), hb.1, ⟨hb.2.1, hb.len.1, hb.len.2⟩, hb.2.2.2.2.el (by rw [hb.1]; exact hk)⟩

set_option maxRecDepth 100000 in
set_option maxHeartbeats 6400000 in
/-- Up to the test of two bytes: there are two. -/
theorem take_two (p : Option Addr) (n d k b o : Nat) (xs : List Int) (w : World) (hx : Ctx p n d k b o xs w) (hk : k < n) (hn : n ≤ 65536) (h2 : isin [2] (cls (el xs k)) = false) (h3 : isin [3, 4] (cls (el xs k)) = false)
    (hk1 : k + 1 < n) (hc : (el xs k = 58 ∧ el xs (k + 1) = 61) ∨ (el xs k = 61 ∧ el xs (k + 1) = 62)) (hK : pieceK (xs.drop k) = 5) (hN : pieceN (xs.drop k) = 2) :
    Calls Tryz.prog 81 #[.slice p n d, .int .i64 k] w fun e w' => TakeEnd (xs.drop k) e ∧ Below w.heap.size w w' := by
  obtain rfl := hx.hp
  have hcv := hx.twob hk1
  have hcl := hx.cell
  have hroom := hx.room
  have hbyte := hx.byte
  have hni : (n : Int) ≤ 65536 := by omega
  obtain ⟨T, hT⟩ : ∃ T, T = strOfNums ((xs.drop k).take 2) := ⟨_, rfl⟩
  rw [← hT] at hcv
  have HT := Lib.hid hT; have HK := Lib.hid hK; have HN := Lib.hid hN; have HCV := Lib.hid hcv; have HCL := Lib.hid hcl; have H2 := Lib.hid h2; have H3 := Lib.hid h3; have B0 := Lib.hid hbyte.1; have B1 := Lib.hid hbyte.2
  have ck := hcl w (Below.refl _ _) k hk
  have HEL := Lib.hid hk1; have HKN := Lib.hid hk
  clear hT hK hN hcv hcl h2 h3 hbyte hx hn
  rcases hc with ⟨ha, hb⟩ | ⟨ha, hb⟩
  all_goals
    have HA := Lib.hid ha; have HBB := Lib.hid hb
    clear ha hb
    go_enter Tryz.func81, Tryz.ntmps81
    go_wp2_with (fail)
    refine (refDigit_walk _ B0.out B1.out _).mono ?_
    rw [H2.out]
    rintro e w1 ⟨rfl, rfl⟩
    clear ck
    go_wp2_with (fail)
    refine (refLetter_walk _ B0.out B1.out _).mono ?_
    rw [H3.out]
    rintro e w1 ⟨rfl, hb1⟩
    have hcv := HCV.out _ hb1
    have ck1 := HCL.out _ hb1 (k + 1) HEL.out
    have HB1 := Lib.hid hb1; clear hb1
    rw [HA.out]
    rw [HBB.out] at ck1
    go_wp2
    go_ret2
    exact ⟨takeEnd_mk HK.out.symm (fun _ => by rw [HT.out, HN.out]) rfl, HB1.out⟩

/-- What the tests on a byte come to. -/
structure Tests (c : Int) (a b e : Bool) : Prop where
  e58 : (c == 58) = a
  n58 : (c != 58) = !a
  e61 : (c == 61) = b
  e62 : (c == 62) = e
  n62 : (c != 62) = !e
theorem tests_58 : Tests 58 true false false := ⟨by decide, by decide, by decide, by decide, by decide⟩
theorem tests_61 : Tests 61 false true false := ⟨by decide, by decide, by decide, by decide, by decide⟩
theorem tests_62 : Tests 62 false false true := ⟨by decide, by decide, by decide, by decide, by decide⟩
theorem tests_none {c : Int} (h1 : c ≠ 58) (h2 : c ≠ 61) (h3 : c ≠ 62) : Tests c false false false := by
  refine ⟨?_, ?_, ?_, ?_, ?_⟩ <;> simpa using by assumption

/-- A sign of one byte, or none: told by the tests. -/
theorem take_ways (xs : List Int) (k n : Nat) (hn : xs.length = n) (hk : k < n) (h2 : ¬ cls (el xs k) = 2) (h3 : ¬ (cls (el xs k) = 3 ∨ cls (el xs k) = 4)) (ht : two (xs.drop k) = false) :
    ∃ a b e V, Tests (el xs k) a b e ∧ cls (el xs k) = V ∧ (V = 0 ∨ V = 1 ∨ V = 5) ∧ (a = true → k + 1 < n → (el xs (k + 1) == 61) = false) ∧ (b = true → k + 1 < n → (el xs (k + 1) == 62) = false) ∧
      ((a = true ∧ b = false ∧ e = false ∧ V = 5 ∧ pieceK (xs.drop k) = 0) ∨ (a = false ∧ b = true ∧ e = false ∧ V = 5 ∧ pieceK (xs.drop k) = 5 ∧ pieceN (xs.drop k) = 1) ∨ (a = false ∧ b = false ∧ e = true ∧ V = 5 ∧ pieceK (xs.drop k) = 0) ∨
        (a = false ∧ b = false ∧ e = false ∧ V = 5 ∧ pieceK (xs.drop k) = 5 ∧ pieceN (xs.drop k) = 1) ∨ (a = false ∧ b = false ∧ e = false ∧ (V = 0 ∨ V = 1) ∧ pieceK (xs.drop k) = 0)) := by
  have hel : el (xs.drop k) 0 = el xs k := by rw [Chars.el_drop, Nat.add_zero]
  have hN : pieceN (xs.drop k) = 1 := by unfold pieceN; rw [hel, if_neg h2, if_neg h3, ht]; rfl
  have hK : pieceK (xs.drop k) = if cls (el xs k) = 5 then (if el xs k = 58 ∨ el xs k = 62 then 0 else 5) else 0 := by unfold pieceK; rw [hel, if_neg h2, if_neg h3, ht]; rfl
  have hcl := Chars.cls_le (el xs k)
  rw [two_at xs k n hn] at ht
  have ht' := of_decide_eq_false ht
  by_cases c58 : el xs k = 58
  · rw [c58] at hK ht' ⊢
    refine ⟨true, false, false, 5, tests_58, by decide, by omega, fun _ h => ?_, fun h => (by cases h), .inl ⟨rfl, rfl, rfl, rfl, by rw [hK]; decide⟩⟩
    rw [beq_eq_false_iff_ne]
    exact fun e => ht' ⟨h, .inl ⟨rfl, e⟩⟩
  by_cases c61 : el xs k = 61
  · rw [c61] at hK ht' ⊢
    refine ⟨false, true, false, 5, tests_61, by decide, by omega, fun h => (by cases h), fun _ h => ?_, .inr (.inl ⟨rfl, rfl, rfl, rfl, by rw [hK]; decide, hN⟩)⟩
    rw [beq_eq_false_iff_ne]
    exact fun e => ht' ⟨h, .inr ⟨rfl, e⟩⟩
  by_cases c62 : el xs k = 62
  · rw [c62] at hK ⊢
    exact ⟨false, false, true, 5, tests_62, by decide, by omega, fun h => (by cases h), fun h => (by cases h), .inr (.inr (.inl ⟨rfl, rfl, rfl, rfl, by rw [hK]; decide⟩))⟩
  · refine ⟨false, false, false, cls (el xs k), tests_none c58 c61 c62, rfl, by omega, fun h => (by cases h), fun h => (by cases h), ?_⟩
    by_cases h5 : cls (el xs k) = 5
    · exact .inr (.inr (.inr (.inl ⟨rfl, rfl, rfl, h5, by rw [hK, if_pos h5, if_neg (by omega)], hN⟩)))
    · exact .inr (.inr (.inr (.inr ⟨rfl, rfl, rfl, by omega, by rw [hK, if_neg h5]⟩)))

set_option maxRecDepth 100000 in
set_option maxHeartbeats 12800000 in
theorem take_one (p : Option Addr) (n d k b o : Nat) (xs : List Int) (w : World) (hx : Ctx p n d k b o xs w) (hk : k < n) (hn : n ≤ 65536) (h2 : ¬ cls (el xs k) = 2) (h3 : ¬ (cls (el xs k) = 3 ∨ cls (el xs k) = 4)) (ht : two (xs.drop k) = false) :
    Calls Tryz.prog 81 #[.slice p n d, .int .i64 k] w fun e w' => TakeEnd (xs.drop k) e ∧ Below w.heap.size w w' := by
  obtain ⟨a, b', e', V, htests, hV, hVs, n61, n62, hways⟩ := take_ways xs k n hx.len hk h2 h3 ht
  obtain rfl := hx.hp
  have hi2 : isin [2] (cls (el xs k)) = false := by unfold isin; exact decide_eq_false fun h => h2 (by simpa using h)
  have hi3 : isin [3, 4] (cls (el xs k)) = false := by unfold isin; exact decide_eq_false fun h => h3 (by simpa using h)
  have hni : (n : Int) ≤ 65536 := by omega
  have hroom := hx.room
  have HX := Lib.hid hx
  have H2 := Lib.hid hi2; have H3 := Lib.hid hi3; have B0 := Lib.hid hx.byte.1; have B1 := Lib.hid hx.byte.2; have HV := Lib.hid hV
  have ck := hx.cell w (Below.refl _ _) k hk
  obtain ⟨T, hT⟩ : ∃ T, T = strOfNums ((xs.drop k).take 1) := ⟨_, rfl⟩
  have HT := Lib.hid hT
  obtain ⟨t1, t2, t3, t4, t5⟩ := htests
  clear hx hi2 hi3 hn h2 h3 ht hT hV
  by_cases hk1 : k + 1 < n
  all_goals
    rcases hways with ⟨rfl, rfl, rfl, rfl, hK⟩ | ⟨rfl, rfl, rfl, rfl, hK, hN⟩ | ⟨rfl, rfl, rfl, rfl, hK⟩ | ⟨rfl, rfl, rfl, rfl, hK, hN⟩ | ⟨rfl, rfl, rfl, rfl | rfl, hK⟩
    all_goals
      have HK := Lib.hid hK
      try have HN := Lib.hid hN
      try have M61 := Lib.hid (n61 rfl hk1)
      try have M62 := Lib.hid (n62 rfl hk1)
      clear hK hVs n61 n62
      try clear hN
      go_enter Tryz.func81, Tryz.ntmps81
      go_wp2_with (fail)
      refine (refDigit_walk _ B0.out B1.out _).mono ?_
      rw [H2.out]
      rintro e w1 ⟨rfl, rfl⟩
      clear ck
      go_wp2_with (fail)
      refine (refLetter_walk _ B0.out B1.out _).mono ?_
      rw [H3.out]
      rintro e w1 ⟨rfl, hb1⟩
      try have ck1 := HX.out.cell _ hb1 (k + 1) hk1
      try have m61 := M61.out
      try have m62 := M62.out
      have HB1 := Lib.hid hb1; clear hb1
      go_wp2_with (fail)
      refine (Chars.refClass_walk _ B0.out B1.out _).mono ?_
      rw [HV.out]
      rintro e w2 ⟨rfl, hb2⟩
      have HB2 := Lib.hid (HB1.out.trans (hb2.mono HB1.out.size))
      have hcv := HX.out.one _ HB2.out
      rw [← HT.out] at hcv
      clear hb2
      try clear ck1
      go_wp2
      go_ret2
      first
        | exact ⟨takeEnd_mk HK.out.symm (fun _ => by rw [HT.out, HN.out]) rfl, HB2.out⟩
        | exact ⟨takeEnd_mk HK.out.symm (fun h => absurd HK.out h) rfl, HB2.out⟩

/-- THE DOCUMENT's TOKEN AT A PLACE. -/
theorem take_walk (p : Option Addr) (n d k : Nat) (xs : List Int) (w : World) (hb : BytesIn w p n d xs) (hk : k < n) (hn : n ≤ 65536) :
    Calls Tryz.prog 81 #[.slice p n d, .int .i64 k] w fun e w' => TakeEnd (xs.drop k) e ∧ Below w.heap.size w w' := by
  by_cases h2 : cls (el xs k) = 2
  · exact take_digit p n d k xs w hb hk hn h2
  by_cases h3 : cls (el xs k) = 3 ∨ cls (el xs k) = 4
  · exact take_letter p n d k xs w hb hk hn h2 h3
  obtain ⟨b, o, hx⟩ := ctx_of hb hk
  cases ht : two (xs.drop k)
  · exact take_one p n d k b o xs w hx hk hn h2 h3 ht
  · have ht' := ht
    rw [two_at xs k n hb.1] at ht'
    obtain ⟨hk1, hc⟩ := of_decide_eq_true ht'
    have hel : el (xs.drop k) 0 = el xs k := by rw [Chars.el_drop, Nat.add_zero]
    have h5 : cls (el xs k) = 5 := by rcases hc with ⟨h, _⟩ | ⟨h, _⟩ <;> rw [h] <;> decide
    refine take_two p n d k b o xs w hx hk hn ?_ ?_ hk1 hc ?_ ?_
    · rw [h5]; decide
    · rw [h5]; decide
    · unfold pieceK; rw [hel, if_neg h2, if_neg h3, if_pos h5, ht]; rfl
    · unfold pieceN; rw [hel, if_neg h2, if_neg h3, ht]; rfl
end Token
end Go.Proofs.YtadpjkehflokcaaGreatDoor
namespace Go.Proofs.YtadpjkehflokcaaGreatDoor
open Go.RowKit
set_option linter.unusedVariables false
namespace Token
open Chars (ret_i64 ret_bool ret_u8 cls el isin run spanI BytesAt Bytes bytes_new)
open Words (KwLaid NumLaid Laid2 NumEnd numV numB kwN nameB exnB)

set_option maxRecDepth 100000 in
set_option maxHeartbeats 6400000 in
theorem refLex_walk (p : Option Addr) (n d : Nat) (xs : List Int) (w : World) (hb : BytesIn w p n d xs) :
    Calls Tryz.prog 47 #[.slice p n d] w fun e w' => LexEnd xs w e w' := by
  have hn := hb.1
  have hnl := hb.len.1
  have HX := Lib.hid hn
  have HB := Lib.hid hb
  clear hb hn
  by_cases hbig : 65536 < n
  · have hbi : (65536 : Int) < (n : Int) := by omega
    have HBI := Lib.hid hbig
    clear hbig
    go_enter Tryz.func47, Tryz.ntmps47
    go_wp2
    refine bodyPost_ret (v := .tuple #[.slice (some ⟨w.heap.size, 0, none⟩) 0 0, .int .i64 0, .int .i64 3]) (by simp [results, Tryz.results47, go_sem]) rfl ⟨(Below.refl _ _).alloc (Nat.le_refl _) _, .inl ⟨by rw [HX.out]; exact HBI.out, _, _, rfl⟩⟩
  have hn : n ≤ 65536 := by omega
  obtain ⟨i0, hi, hz0, hz1, hz2⟩ := info_parts infoTok
  have HI := Lib.hid hi; have HZ0 := Lib.hid hz0; have HZ1 := Lib.hid hz1; have HZ2 := Lib.hid hz2
  have hni : (n : Int) ≤ 65536 := by omega
  have HN := Lib.hid hn
  have hm := World.ownsRow_made (w := w) (base := w.heap.size) (e := 46) (size := 3) #[] 0 (Nat.le_refl _) (by unfold maxLen; omega) rfl
  have HM := Lib.hid hm
  clear hi hz0 hz1 hz2 hbig hn hm
  go_enter Tryz.func47, Tryz.ntmps47
  go_wp2
  go_loopw [5, 6, 7, 8] (fun v i _ _ wr => ∃ (k : Nat) (ts : List Tok), k ≤ n ∧ i = .int .i64 k ∧ ts.length ≤ k ∧ wr.ownsRow w.heap.size 46 3 v ts.length (tcells ts) ∧ Below w.heap.size w wr ∧ lex xs 0 = pre ts (lex (xs.drop k) k)) (fun _ i _ _ _ => n - (intOf i).toNat)
  case atStart => exact ⟨0, [], Nat.zero_le _, rfl, by simp, HM.out, (Below.refl _ _).alloc (Nat.le_refl _) _, by rw [pre_nil, List.drop_zero]⟩
  case round =>
    obtain ⟨k, ts, hk, rfl, hts, hown, hbw, hlx⟩ := hrel
    have HOWN := Lib.hid hown; have HBW := Lib.hid hbw; have HLX := Lib.hid hlx
    clear hown hbw hlx
    by_cases hlt : k < n
    · have hne : xs.drop k ≠ [] := fun e => by have := drop_len xs k n HX.out; rw [e] at this; simp at this; omega
      have HNE := Lib.hid hne; clear hne
      obtain ⟨b, o, hx⟩ := ctx_of (HB.out.below HBW.out) hlt
      obtain rfl := hx.hp
      have ck := hx.cell _ (Below.refl _ _) k hlt
      have B0 := Lib.hid hx.byte.1; have B1 := Lib.hid hx.byte.2
      have hel : el (xs.drop k) 0 = el xs k := by rw [Chars.el_drop, Nat.add_zero]
      have HEL := Lib.hid hel
      clear hx hel
      by_cases hc : cls (el xs k) = 1
      · have HC := Lib.hid hc; clear hc
        go_wp2_with (fail)
        refine (Chars.refClass_walk _ B0.out B1.out _).mono ?_
        rw [HC.out]
        rintro e w2 ⟨rfl, hb2⟩
        have HB2 := Lib.hid (HBW.out.trans (hb2.mono HBW.out.size))
        have HO2 := Lib.hid (own_below HOWN.out hb2)
        clear hb2 ck
        go_wp2
        go_roundw
        case rel =>
          refine ⟨k + 1, ts, by omega, by go_num, by omega, HO2.out, HB2.out, ?_⟩
          rw [HLX.out, lex_blank _ _ HNE.out (by rw [HEL.out]; exact HC.out), List.drop_drop]
        case measure => simp [intOf]; omega
      · have hcb : (cls (el xs k) == 1) = false := by simpa using hc
        have HC := Lib.hid hc; clear hc
        go_wp2_with (fail)
        refine (Chars.refClass_walk _ B0.out B1.out _).mono ?_
        rintro e w2 ⟨rfl, hb2⟩
        have HB2 := Lib.hid (HBW.out.trans (hb2.mono HBW.out.size))
        have HO2 := Lib.hid (own_below HOWN.out hb2)
        clear hb2 ck
        go_wp2_with (fail)
        refine (take_walk _ n d k xs _ (HB.out.below HB2.out) hlt HN.out).mono ?_
        rintro e w3 ⟨⟨T, rfl, hT⟩, hb3⟩
        have HB3 := Lib.hid (HB2.out.trans (hb3.mono HB2.out.size))
        have HO3 := Lib.hid (own_below HO2.out hb3)
        have HT := Lib.hid hT
        clear hT hb3
        by_cases hK : pieceK (xs.drop k) = 0
        · have hlex : lex xs 0 = .inl k := by rw [HLX.out, lex_bad _ _ HNE.out (by rw [HEL.out]; exact HC.out) hK]; rfl
          have HLE := Lib.hid hlex
          rw [hK]
          clear hK hlex
          go_wp2
          refine bodyPost_ret (v := .tuple #[.slice (some ⟨w3.heap.size, 0, none⟩) 0 0, .int .i64 k, .int .i64 2]) (by simp [results, Tryz.results47, go_sem]) rfl ⟨?_, .inr (.inl ⟨by rw [HX.out]; exact HN.out, _, _, k, HLE.out, rfl⟩)⟩
          exact HB3.out.alloc HB3.out.size _
        · have hlex := HLX.out
          rw [lex_tok _ _ HNE.out hK, pre_pre] at hlex
          have hTe := HT.out hK
          have hKb : (pieceK (xs.drop k) == 0) = false := by simpa using hK
          have hp := pieceN_pos _ HNE.out
          have hdl := drop_len xs k n HX.out
          have hTs : T.size = pieceN (xs.drop k) := by rw [hTe, strOfNums_size, List.length_take]; omega
          have htok : tcell (tokAt (xs.drop k) k) = [.int .u8 (pieceK (xs.drop k)), .string T, .int .i64 k] := by unfold tcell tokAt; rw [← hTe]
          have hTn : k + T.size ≤ n := by omega
          have hTp : 0 < T.size := by omega
          rw [← hTs] at hlex
          obtain ⟨K, hKK⟩ : ∃ K, K = pieceK (xs.drop k) := ⟨_, rfl⟩
          rw [← hKK] at hKb htok ⊢
          have HLE := Lib.hid hlex; have HTS := Lib.hid hTs; have HTK := Lib.hid htok
          clear hlex hK hTe hp hdl hTs htok hKK HT
          have hBs : w.heap.size ≤ w3.heap.size := HB3.out.size
          have HBS := Lib.hid hBs
          have hts' : ts.length ≤ 65536 := by have := HN.out; omega
          have HTS2 := Lib.hid hts'
          clear hBs hts'
          go_wp2_with (at_builtin; refine wpList_append_own _ rfl (.tmp 36) (.tmp 41) 24 rfl w.heap.size 46 i0 (.agg #[.int .u8 0, .string ⟨#[]⟩, .int .i64 0]) 3 32 Tryz.underlying24 HI.out HZ0.out HZ1.out HZ2.out rfl (by decide) _ _ _ rfl (HO3.out.alloc _) ⟨w3.heap.size, 0, none⟩ 1 1 [.int .u8 K, .string T, .int .i64 k] rfl rfl (three_new _ _ _ _ _) (by intro u hu; simp at hu; rcases hu with rfl | rfl | rfl <;> rfl) (by have := HTS2.out; unfold maxLen; omega) (by have := HTS2.out; omega) (by have := HBS.out; simp; omega) ?_; intro v4 w4 hown4 hgrow4 hnil4; have AFT := Lib.hid ((HB3.out.alloc HBS.out _).grown hgrow4 (by have := HBS.out; simp; omega) (fun q hq => (HO3.out.lt q hq).1)); have HO4 := Lib.hid hown4; clear hown4 hgrow4 hnil4)
          go_roundw
          case rel =>
            refine ⟨k + T.size, ts ++ [tokAt (xs.drop k) k], hTn, by go_num, ?_, ?_, AFT.out, ?_⟩
            · rw [List.length_append]; simp; omega
            · rw [List.length_append, tcells_snoc, HTK.out]; exact HO4.out
            · rw [HLE.out, List.drop_drop]
          case measure => simp [intOf]; omega
    · obtain rfl : k = n := by omega
      have hlex : lex xs 0 = .inr ts := by rw [HLX.out, List.drop_eq_nil_of_le (by rw [HX.out]; exact Nat.le_refl _), lex_nil]; simp [pre]
      have HLE := Lib.hid hlex
      have hBs : w.heap.size ≤ wr.heap.size := HBW.out.size
      have HBS := Lib.hid hBs
      clear hBs hlex
      go_wp2_with (at_builtin; refine wpList_append_own _ rfl (.tmp 47) (.tmp 51) 24 rfl w.heap.size 46 i0 (.agg #[.int .u8 0, .string ⟨#[]⟩, .int .i64 0]) 3 32 Tryz.underlying24 HI.out HZ0.out HZ1.out HZ2.out rfl (by decide) _ _ _ rfl (HOWN.out.alloc _) ⟨wr.heap.size, 0, none⟩ 1 1 [.int .u8 6, .string ⟨#[]⟩, .int .i64 k] rfl rfl (three_new _ _ _ _ _) (by intro u hu; simp at hu; rcases hu with rfl | rfl | rfl <;> rfl) (by have := HN.out; unfold maxLen; omega) (by have := HN.out; omega) (by have := HBS.out; simp; omega) ?_; intro v3 w3 hown3 hgrow3 hnil3; have AFT := Lib.hid ((HBW.out.alloc HBS.out _).grown hgrow3 (by have := HBS.out; simp; omega) (fun q hq => (HOWN.out.lt q hq).1)); have HO3 := Lib.hid hown3; clear hown3 hgrow3 hnil3)
      have ho : w3.ownsRow w.heap.size 46 3 v3 (ts ++ [endT k]).length (tcells (ts ++ [endT k])) := by
        rw [List.length_append, tcells_snoc]; exact HO3.out
      obtain ⟨g, c, rfl, hat, hcn, hcm⟩ := toks_of_own ho (by rw [List.length_append]; simp)
      have hlen : (ts ++ [endT k]).length = ts.length + 1 := by rw [List.length_append]; rfl
      refine bodyPost_ret (v := .tuple #[.slice (some ⟨g, 0, none⟩) (ts.length + 1) c, .int .i64 0, .int .i64 0]) (by simp [results, Tryz.results47, go_sem]) rfl ⟨AFT.out, .inr (.inr ⟨by rw [HX.out]; exact HN.out, ts, g, c, HLE.out, rfl, ?_⟩)⟩
      rw [HX.out]
      exact ⟨hat, by rw [hlen] at hcn; exact hcn, hcm⟩
end Token
end Go.Proofs.YtadpjkehflokcaaGreatDoor
