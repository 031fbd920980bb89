/- The walks of the document's token at a place. -/
import Derived.Test.YtlmaphaipcfppaaGreatDoorTokenCut
import Derived.Test.YtlmaphaipcfppaaGreatDoorWordsRef
import Derived.Test.YtlmaphaipcfppaaGreatDoorWordsRefNum
namespace Go.Proofs.YtlmaphaipcfppaaGreatDoor
open Go.RowKit
set_option linter.unusedVariables false
namespace Token
open Chars (ret_i64 ret_bool ret_u8 cls el isin run spanI BytesAt Bytes bytes_new)
open Words (KwLaid NumLaid Laid2 NumEnd numV numB kwN nameB exnB)

theorem run_below (ys : List Int) : ∀ (xs : List Int) (j : Nat), j < run ys xs → isin ys (cls (el xs j)) = true
  | [], j, h => by rw [run_nil] at h; omega
  | x :: r, j, h => by
    rw [run_cons] at h
    cases hx : isin ys (cls x)
    · rw [hx] at h; simp at h
    · rw [hx] at h
      simp only [if_true] at h
      cases j with
      | zero => exact hx
      | succ j => exact run_below ys r j (by omega)
theorem run_out (ys : List Int) : ∀ xs : List Int, run ys xs < xs.length → isin ys (cls (el xs (run ys xs))) = false
  | [], h => by simp at h
  | x :: r, h => by
    rw [run_cons] at h ⊢
    cases hx : isin ys (cls x)
    · simp only [Bool.false_eq_true, if_false]
      exact hx
    · rw [hx] at h
      simp only [if_true, List.length_cons] at h ⊢
      exact run_out ys r (by omega)

theorem refDigit_walk (c : Int) (h0 : 0 ≤ c) (h1 : c ≤ 255) (w : World) :
    Calls Tryz.prog 50 #[.int .u8 c] w fun e w' => e = .returned (.bool (isin [2] (cls c))) ∧ w = w' := by
  have hd := Words.digit_iff c
  by_cases d : 48 ≤ c ∧ c ≤ 57
  · have hi : isin [2] (cls c) = true := by rw [hd.2 d]; rfl
    have HI := Lib.hid hi
    obtain ⟨d1, d2⟩ := d
    clear hi hd
    go_enter Tryz.func50, Tryz.ntmps50
    go_wp2
    go_ret
    exact ⟨ret_bool HI.out.symm, rfl⟩
  · have hi : isin [2] (cls c) = false := by
      unfold isin
      refine decide_eq_false fun h => d (hd.1 ?_)
      simpa using h
    have HI := Lib.hid hi
    clear hi hd
    by_cases d1 : 48 ≤ c
    · have d2 : ¬ c ≤ 57 := fun h => d ⟨d1, h⟩
      clear d
      go_enter Tryz.func50, Tryz.ntmps50
      go_wp2
      go_ret
      exact ⟨ret_bool HI.out.symm, rfl⟩
    · clear d
      go_enter Tryz.func50, Tryz.ntmps50
      go_wp2
      go_ret
      exact ⟨ret_bool HI.out.symm, rfl⟩

theorem refLetter_walk (c : Int) (h0 : 0 ≤ c) (h1 : c ≤ 255) (w : World) :
    Calls Tryz.prog 52 #[.int .u8 c] w fun e w' => e = .returned (.bool (isin [3, 4] (cls c))) ∧ Below w.heap.size w w' := by
  have hcl := Chars.cls_le c
  have hk : cls c = 0 ∨ cls c = 1 ∨ cls c = 2 ∨ cls c = 3 ∨ cls c = 4 ∨ cls c = 5 := by omega
  clear hcl
  rcases hk with hk | hk | hk | hk | hk | hk
  all_goals
    have HK := Lib.hid hk
    clear hk
    go_enter Tryz.func52, Tryz.ntmps52
    go_wp2_with (fail)
    refine (Chars.refClass_walk c h0 h1 _).mono ?_
    rw [HK.out]
    rintro e w1 ⟨rfl, hb⟩
    have HB := Lib.hid hb; clear hb
    go_wp2
    go_ret
    exact ⟨ret_bool (by rw [HK.out]; decide), HB.out⟩

/-- What take comes to. -/
def TakeEnd (xs : List Int) (e : Ending) : Prop := ∃ s : ByteArray, e = .returned (.tuple #[.string s, .int .u8 (pieceK xs)]) ∧ (pieceK xs ≠ 0 → s = strOfNums (xs.take (pieceN xs)))
theorem takeEnd_mk {xs : List Int} {e : Ending} {K : Int} {s : ByteArray} (hK : K = pieceK xs) (hs : pieceK xs ≠ 0 → s = strOfNums (xs.take (pieceN xs))) (he : e = .returned (.tuple #[.string s, .int .u8 K])) : TakeEnd xs e := by
  subst hK
  exact ⟨s, he, hs⟩

set_option maxRecDepth 100000 in
set_option maxHeartbeats 3200000 in
theorem take_digit (p : Option Addr) (n d k : Nat) (xs : List Int) (w : World) (hb : BytesIn w p n d xs) (hk : k < n) (hn : n ≤ 65536) (h2 : cls (el xs k) = 2) :
    Calls Tryz.prog 30 #[.slice p n d, .int .i64 k] w fun e w' => TakeEnd (xs.drop k) e ∧ Below w.heap.size w w' := by
  have hel : el (xs.drop k) 0 = el xs k := by rw [Chars.el_drop, Nat.add_zero]
  have hK : pieceK (xs.drop k) = digK (strOfNums ((xs.drop k).take (run [2] (xs.drop k)))) := by unfold pieceK; rw [hel, if_pos h2]
  have hN : pieceN (xs.drop k) = run [2] (xs.drop k) := by unfold pieceN; rw [hel, if_pos h2]
  have hrl := run_at_le [2] xs k (by rw [hb.1]; omega)
  have hin := run_below [2] (xs.drop k)
  have hout := run_out [2] (xs.drop k)
  have hsz := str_size (xs.drop k) (run [2] (xs.drop k))
  have hlen : (xs.drop k).length = n - k := by rw [List.length_drop, hb.1]
  rw [hlen] at hout hsz
  rw [hb.1] at hrl
  obtain ⟨b, o, rfl, hc⟩ := BytesAt.cells hb.2.2.2.1 (by rw [hb.1]; omega)
  have hcl : ∀ i, i < n → w.cell? ⟨b, o + i, none⟩ = some (.int .u8 (el xs i)) := fun i hi => hc i (by rw [hb.1]; exact hi)
  have hby : ∀ i, i < n → 0 ≤ el xs i ∧ el xs i ≤ 255 := fun i hi => hb.2.2.2.2.el (by rw [hb.1]; exact hi)
  obtain ⟨R, hR⟩ : ∃ R, R = run [2] (xs.drop k) := ⟨_, rfl⟩
  have hcv := cut_text w b o R (d - k) xs k hc (by rw [hb.1, hR]; exact hrl)
  rw [← hR] at hK hN hrl hin hout hsz
  obtain ⟨T, hT⟩ : ∃ T, T = strOfNums ((xs.drop k).take R) := ⟨_, rfl⟩
  rw [← hT] at hK hcv hsz
  have HK := Lib.hid hK; have HN := Lib.hid hN; have HT := Lib.hid hT; have HIN := Lib.hid hin; have HOUT := Lib.hid hout; have HCL := Lib.hid hcl; have HBY := Lib.hid hby; have HSZ := Lib.hid hsz
  have HNN := Lib.hid hn; have HCV := Lib.hid hcv; have HEL := Lib.hid (Chars.el_drop xs k)
  have hni : (n : Int) ≤ 65536 := by omega
  have hd2 := hb.2.1
  have hdl := hb.len
  have ck := hcl k hk
  have bk := hby k hk
  have B0 := Lib.hid bk.1; have B1 := Lib.hid bk.2
  have hi2 : isin [2] (cls (el xs k)) = true := by rw [h2]; rfl
  have HI2 := Lib.hid hi2
  clear hel hK hN hin hout hlen hcl hby hR hT hc hb hsz hn hcv bk h2 hi2
  go_enter Tryz.func30, Tryz.ntmps30
  go_wp2_with (fail)
  refine (refDigit_walk _ B0.out B1.out _).mono ?_
  rw [HI2.out]
  rintro e w1 ⟨rfl, rfl⟩
  go_wp2
  go_loop [7] (fun i => ∃ j : Nat, j ≤ R ∧ i = .int .i64 ((k + j : Nat) : Int)) (fun i => n - (intOf i).toNat)
  case atStart => exact ⟨0, by omega, rfl⟩
  case round =>
    obtain ⟨j, hj, rfl⟩ := hrel
    by_cases hlt : j < R
    · have hkj : k + j < n := by omega
      have ckj := HCL.out (k + j) hkj
      have bj := HBY.out (k + j) hkj
      have C0 := Lib.hid bj.1; have C1 := Lib.hid bj.2
      have hij : isin [2] (cls (el xs (k + j))) = true := by have := HIN.out j hlt; rw [HEL.out] at this; exact this
      have HIJ := Lib.hid hij
      clear bj hij ck
      go_wp2_with (fail)
      refine (refDigit_walk _ C0.out C1.out _).mono ?_
      rw [HIJ.out]
      rintro e w1 ⟨rfl, rfl⟩
      go_wp2
      go_round
      case rel => exact ⟨j + 1, by omega, by go_num⟩
      case measure => simp [intOf]; omega
    · obtain rfl : j = R := by omega
      have hcv := HCV.out
      by_cases hend : k + j < n
      · have cke := HCL.out (k + j) hend
        have be := HBY.out (k + j) hend
        have C0 := Lib.hid be.1; have C1 := Lib.hid be.2
        have hij : isin [2] (cls (el xs (k + j))) = false := by have := HOUT.out (by omega); rw [HEL.out] at this; exact this
        have HIJ := Lib.hid hij
        clear be hij ck
        go_wp2_with (fail)
        refine (refDigit_walk _ C0.out C1.out _).mono ?_
        rw [HIJ.out]
        rintro e w1 ⟨rfl, rfl⟩
        clear cke
        go_wp2_with (fail)
        refine (Words.refNumber_walk T _ (by have := HSZ.out; have := HNN.out; unfold maxLen; omega)).mono ?_
        rintro e w2 ⟨he, hb2⟩
        unfold NumEnd at he
        have HB2 := Lib.hid hb2
        clear hb2
        cases hnb : numB T.data.toList
        · have hk0 : pieceK (xs.drop k) = 0 := by rw [HK.out]; unfold digK; rw [hnb]; rfl
          rw [hnb] at he
          subst he
          have HK0 := Lib.hid hk0
          clear hnb hk0
          generalize numV T.data.toList = V
          go_wp2
          go_ret2
          exact ⟨takeEnd_mk HK0.out.symm (fun h => absurd HK0.out h) rfl, HB2.out⟩
        · have hk1 : pieceK (xs.drop k) = 1 := by rw [HK.out]; unfold digK; rw [hnb]; rfl
          rw [hnb] at he
          subst he
          have HK1 := Lib.hid hk1
          clear hnb hk1
          generalize numV T.data.toList = V
          go_wp2
          go_ret2
          exact ⟨takeEnd_mk HK1.out.symm (fun _ => by rw [HT.out, HN.out]) rfl, HB2.out⟩
      · clear ck
        go_wp2_with (fail)
        refine (Words.refNumber_walk T _ (by have := HSZ.out; have := HNN.out; unfold maxLen; omega)).mono ?_
        rintro e w2 ⟨he, hb2⟩
        unfold NumEnd at he
        have HB2 := Lib.hid hb2
        clear hb2
        cases hnb : numB T.data.toList
        · have hk0 : pieceK (xs.drop k) = 0 := by rw [HK.out]; unfold digK; rw [hnb]; rfl
          rw [hnb] at he
          subst he
          have HK0 := Lib.hid hk0
          clear hnb hk0
          generalize numV T.data.toList = V
          go_wp2
          go_ret2
          exact ⟨takeEnd_mk HK0.out.symm (fun h => absurd HK0.out h) rfl, HB2.out⟩
        · have hk1 : pieceK (xs.drop k) = 1 := by rw [HK.out]; unfold digK; rw [hnb]; rfl
          rw [hnb] at he
          subst he
          have HK1 := Lib.hid hk1
          clear hnb hk1
          generalize numV T.data.toList = V
          go_wp2
          go_ret2
          exact ⟨takeEnd_mk HK1.out.symm (fun _ => by rw [HT.out, HN.out]) rfl, HB2.out⟩

theorem isin_342 (v : Int) : isin [3, 4, 2] v = (isin [2] v || isin [3, 4] v) := by
  unfold isin
  rw [Bool.eq_iff_iff]
  simp
  omega

set_option maxRecDepth 100000 in
set_option maxHeartbeats 6400000 in
theorem take_letter (p : Option Addr) (n d k : Nat) (xs : List Int) (w : World) (hb : BytesIn w p n d xs) (hk : k < n) (hn : n ≤ 65536) (h2 : ¬ cls (el xs k) = 2) (h3 : cls (el xs k) = 3 ∨ cls (el xs k) = 4) :
    Calls Tryz.prog 30 #[.slice p n d, .int .i64 k] w fun e w' => TakeEnd (xs.drop k) e ∧ Below w.heap.size w w' := by
  have hel : el (xs.drop k) 0 = el xs k := by rw [Chars.el_drop, Nat.add_zero]
  have hK : pieceK (xs.drop k) = letK (strOfNums ((xs.drop k).take (run [3, 4, 2] (xs.drop k)))) := by unfold pieceK; rw [hel, if_neg h2, if_pos h3]
  have hN : pieceN (xs.drop k) = run [3, 4, 2] (xs.drop k) := by unfold pieceN; rw [hel, if_neg h2, if_pos h3]
  have hrl := run_at_le [3, 4, 2] xs k (by rw [hb.1]; omega)
  have hin := run_below [3, 4, 2] (xs.drop k)
  have hout := run_out [3, 4, 2] (xs.drop k)
  have hsz := str_size (xs.drop k) (run [3, 4, 2] (xs.drop k))
  have hlen : (xs.drop k).length = n - k := by rw [List.length_drop, hb.1]
  rw [hlen] at hout hsz
  rw [hb.1] at hrl
  have hn1 := hb.1
  have hby : ∀ i, i < n → 0 ≤ el xs i ∧ el xs i ≤ 255 := fun i hi => hb.2.2.2.2.el (by rw [hb.1]; exact hi)
  obtain ⟨b, o, rfl, hc0⟩ := BytesAt.cells hb.2.2.2.1 (by rw [hb.1]; omega)
  have hc : ∀ W : World, Below w.heap.size w W → ∀ i, i < n → W.cell? ⟨b, o + i, none⟩ = some (.int .u8 (el xs i)) := fun W hW i hi =>
    (hW.cell (p := ⟨b, o + i, none⟩) (World.block_lt_of_cell? w _ (hc0 i (by rw [hn1]; exact hi)))).trans (hc0 i (by rw [hn1]; exact hi))
  obtain ⟨R, hR⟩ : ∃ R, R = run [3, 4, 2] (xs.drop k) := ⟨_, rfl⟩
  have hcv : ∀ W : World, Below w.heap.size w W → (convert 22 9 (.slice (some ⟨b, o + k, none⟩) R (d - k))).run Tryz.prog W = .ok (.string (strOfNums ((xs.drop k).take R))) W := fun W hW =>
    cut_text W b o R (d - k) xs k (fun i hi => hc W hW i (by rw [← hn1]; exact hi)) (by rw [hn1, hR]; exact hrl)
  rw [← hR] at hK hN hrl hin hout hsz
  obtain ⟨T, hT⟩ : ∃ T, T = strOfNums ((xs.drop k).take R) := ⟨_, rfl⟩
  rw [← hT] at hK hcv hsz
  have hsz' : T.size ≤ maxLen := by unfold maxLen; omega
  have HK := Lib.hid hK; have HN := Lib.hid hN; have HT := Lib.hid hT; have HIN := Lib.hid hin; have HOUT := Lib.hid hout; have HCL := Lib.hid hc; have HBY := Lib.hid hby; have HSZ := Lib.hid hsz'
  have HNN := Lib.hid hn; have HCV := Lib.hid hcv; have HEL := Lib.hid (Chars.el_drop xs k)
  have hni : (n : Int) ≤ 65536 := by omega
  have hd2 := hb.2.1
  have hdl := hb.len
  have ck := hc w (Below.refl _ _) k hk
  have bk := hby k hk
  have B0 := Lib.hid bk.1; have B1 := Lib.hid bk.2
  have hi2 : isin [2] (cls (el xs k)) = false := by unfold isin; exact decide_eq_false fun h => h2 (by simpa using h)
  have hi3 : isin [3, 4] (cls (el xs k)) = true := by rcases h3 with h | h <;> rw [h] <;> rfl
  have HI2 := Lib.hid hi2; have HI3 := Lib.hid hi3
  clear hel hK hN hin hout hlen hc hby hR hT hc0 hb hsz hsz' hn hcv bk h2 h3 hi2 hi3 hn1
  go_enter Tryz.func30, Tryz.ntmps30
  go_wp2_with (fail)
  refine (refDigit_walk _ B0.out B1.out _).mono ?_
  rw [HI2.out]
  rintro e w1 ⟨rfl, rfl⟩
  clear ck
  go_wp2_with (fail)
  refine (refLetter_walk _ B0.out B1.out _).mono ?_
  rw [HI3.out]
  rintro e w1 ⟨rfl, hb1⟩
  have HB1 := Lib.hid hb1; clear hb1
  go_wp2
  go_loopw [7] (fun i wr => ∃ j : Nat, j ≤ R ∧ i = .int .i64 ((k + j : Nat) : Int) ∧ Below w.heap.size w wr) (fun i _ => n - (intOf i).toNat)
  case atStart => exact ⟨0, by omega, rfl, HB1.out⟩
  case round =>
    obtain ⟨j, hj, rfl, hw⟩ := hrel
    have HW0 := Lib.hid hw; clear hw
    by_cases hlt : j < R
    · have hkj : k + j < n := by omega
      have ckj := HCL.out _ HW0.out (k + j) hkj
      have bj := HBY.out (k + j) hkj
      have C0 := Lib.hid bj.1; have C1 := Lib.hid bj.2
      have hij : isin [3, 4, 2] (cls (el xs (k + j))) = true := by have := HIN.out j hlt; rw [HEL.out] at this; exact this
      rw [isin_342] at hij
      cases h2 : isin [2] (cls (el xs (k + j)))
      · rw [h2, Bool.false_or] at hij
        have HIJ := Lib.hid hij; have H2 := Lib.hid h2
        clear bj hij h2
        go_wp2_with (fail)
        refine (refDigit_walk _ C0.out C1.out _).mono ?_
        rw [H2.out]
        rintro e w2 ⟨rfl, rfl⟩
        go_wp2_with (fail)
        refine (refLetter_walk _ C0.out C1.out _).mono ?_
        rw [HIJ.out]
        rintro e w2 ⟨rfl, hb2⟩
        have HB2 := Lib.hid (HW0.out.trans (hb2.mono HW0.out.size))
        clear hb2 ckj
        go_wp2
        go_roundw
        case rel => exact ⟨j + 1, by omega, by go_num, HB2.out⟩
        case measure => simp [intOf]; omega
      · have H2 := Lib.hid h2
        clear bj hij h2
        go_wp2_with (fail)
        refine (refDigit_walk _ C0.out C1.out _).mono ?_
        rw [H2.out]
        rintro e w2 ⟨rfl, rfl⟩
        clear ckj
        go_wp2
        go_roundw
        case rel => exact ⟨j + 1, by omega, by go_num, HW0.out⟩
        case measure => simp [intOf]; omega
    · obtain rfl : j = R := by omega
      by_cases hend : k + j < n
      · have cke := HCL.out _ HW0.out (k + j) hend
        have be := HBY.out (k + j) hend
        have C0 := Lib.hid be.1; have C1 := Lib.hid be.2
        have hij : isin [3, 4, 2] (cls (el xs (k + j))) = false := by have := HOUT.out (by omega); rw [HEL.out] at this; exact this
        rw [isin_342, Bool.or_eq_false_iff] at hij
        have HIJ := Lib.hid hij
        clear be hij
        go_wp2_with (fail)
        refine (refDigit_walk _ C0.out C1.out _).mono ?_
        rw [HIJ.out.1]
        rintro e w1 ⟨rfl, rfl⟩
        go_wp2_with (fail)
        refine (refLetter_walk _ C0.out C1.out _).mono ?_
        rw [HIJ.out.2]
        rintro e w2 ⟨rfl, hb2⟩
        have HW := Lib.hid (HW0.out.trans (hb2.mono HW0.out.size))
        have hcv := HCV.out _ HW.out
        clear hb2 cke
        go_wp2_with (fail)
        refine (Words.refKeyword_walk T _).mono ?_
        rintro e w3 ⟨rfl, hb3⟩
        have HB3 := Lib.hid (HW.out.trans (hb3.mono HW.out.size))
        clear hb3 hcv
        by_cases hkw : 0 < kwN T.data.toList
        · have hk4 : pieceK (xs.drop k) = 4 := by rw [HK.out]; unfold letK; rw [if_pos hkw]
          have HK4 := Lib.hid hk4
          have hkw' : (0 : Int) < (kwN T.data.toList : Nat) := by omega
          clear hk4 hkw
          go_wp2
          go_ret2
          exact ⟨takeEnd_mk HK4.out.symm (fun _ => by rw [HT.out, HN.out]) rfl, HB3.out⟩
        have hkw' : ¬ (0 : Int) < (kwN T.data.toList : Nat) := by omega
        have hkl : pieceK (xs.drop k) = if nameB T = true then 2 else if exnB T = true then 3 else 0 := by rw [HK.out]; unfold letK; rw [if_neg hkw]
        have HKL := Lib.hid hkl
        clear hkl hkw
        go_wp2_with (fail)
        refine (Words.refName_walk T _ HSZ.out).mono ?_
        cases hnm : nameB T
        · rintro e w4 ⟨rfl, hb4⟩
          have HB4 := Lib.hid (HB3.out.trans (hb4.mono HB3.out.size))
          have HNM := Lib.hid hnm
          clear hb4 hnm
          go_wp2_with (fail)
          refine (Words.refExn_walk T _ HSZ.out).mono ?_
          cases hex : exnB T
          · rintro e w5 ⟨rfl, hb5⟩
            have hk0 : pieceK (xs.drop k) = 0 := by rw [HKL.out, HNM.out, hex]; rfl
            have HB5 := Lib.hid (HB4.out.trans (hb5.mono HB4.out.size))
            have HK0 := Lib.hid hk0
            clear hb5 hex hk0
            go_wp2
            go_ret2
            exact ⟨takeEnd_mk HK0.out.symm (fun h => absurd HK0.out h) rfl, HB5.out⟩
          · rintro e w5 ⟨rfl, hb5⟩
            have hk0 : pieceK (xs.drop k) = 3 := by rw [HKL.out, HNM.out, hex]; rfl
            have HB5 := Lib.hid (HB4.out.trans (hb5.mono HB4.out.size))
            have HK0 := Lib.hid hk0
            clear hb5 hex hk0
            go_wp2
            go_ret2
            exact ⟨takeEnd_mk HK0.out.symm (fun _ => by rw [HT.out, HN.out]) rfl, HB5.out⟩
        · rintro e w4 ⟨rfl, hb4⟩
          have HB4 := Lib.hid (HB3.out.trans (hb4.mono HB3.out.size))
          have hk0 : pieceK (xs.drop k) = 2 := by rw [HKL.out, hnm]; rfl
          have HK0 := Lib.hid hk0
          clear hb4 hnm hk0
          go_wp2
          go_ret2
          exact ⟨takeEnd_mk HK0.out.symm (fun _ => by rw [HT.out, HN.out]) rfl, HB4.out⟩
      · have HW := HW0
        have hcv := HCV.out _ HW.out
        go_wp2_with (fail)
        refine (Words.refKeyword_walk T _).mono ?_
        rintro e w3 ⟨rfl, hb3⟩
        have HB3 := Lib.hid (HW.out.trans (hb3.mono HW.out.size))
        clear hb3 hcv
        by_cases hkw : 0 < kwN T.data.toList
        · have hk4 : pieceK (xs.drop k) = 4 := by rw [HK.out]; unfold letK; rw [if_pos hkw]
          have HK4 := Lib.hid hk4
          have hkw' : (0 : Int) < (kwN T.data.toList : Nat) := by omega
          clear hk4 hkw
          go_wp2
          go_ret2
          exact ⟨takeEnd_mk HK4.out.symm (fun _ => by rw [HT.out, HN.out]) rfl, HB3.out⟩
        have hkw' : ¬ (0 : Int) < (kwN T.data.toList : Nat) := by omega
        have hkl : pieceK (xs.drop k) = if nameB T = true then 2 else if exnB T = true then 3 else 0 := by rw [HK.out]; unfold letK; rw [if_neg hkw]
        have HKL := Lib.hid hkl
        clear hkl hkw
        go_wp2_with (fail)
        refine (Words.refName_walk T _ HSZ.out).mono ?_
        cases hnm : nameB T
        · rintro e w4 ⟨rfl, hb4⟩
          have HB4 := Lib.hid (HB3.out.trans (hb4.mono HB3.out.size))
          have HNM := Lib.hid hnm
          clear hb4 hnm
          go_wp2_with (fail)
          refine (Words.refExn_walk T _ HSZ.out).mono ?_
          cases hex : exnB T
          · rintro e w5 ⟨rfl, hb5⟩
            have hk0 : pieceK (xs.drop k) = 0 := by rw [HKL.out, HNM.out, hex]; rfl
            have HB5 := Lib.hid (HB4.out.trans (hb5.mono HB4.out.size))
            have HK0 := Lib.hid hk0
            clear hb5 hex hk0
            go_wp2
            go_ret2
            exact ⟨takeEnd_mk HK0.out.symm (fun h => absurd HK0.out h) rfl, HB5.out⟩
          · rintro e w5 ⟨rfl, hb5⟩
            have hk0 : pieceK (xs.drop k) = 3 := by rw [HKL.out, HNM.out, hex]; rfl
            have HB5 := Lib.hid (HB4.out.trans (hb5.mono HB4.out.size))
            have HK0 := Lib.hid hk0
            clear hb5 hex hk0
            go_wp2
            go_ret2
            exact ⟨takeEnd_mk HK0.out.symm (fun _ => by rw [HT.out, HN.out]) rfl, HB5.out⟩
        · rintro e w4 ⟨rfl, hb4⟩
          have HB4 := Lib.hid (HB3.out.trans (hb4.mono HB3.out.size))
          have hk0 : pieceK (xs.drop k) = 2 := by rw [HKL.out, hnm]; rfl
          have HK0 := Lib.hid hk0
          clear hb4 hnm hk0
          go_wp2
          go_ret2
          exact ⟨takeEnd_mk HK0.out.symm (fun _ => by rw [HT.out, HN.out]) rfl, HB4.out⟩
end Token
end Go.Proofs.YtlmaphaipcfppaaGreatDoor
