/- The walk of layer 1's statement on cuts. -/
import Derived.Test.YtoodlanmgboegaaCharsLaws2
set_option linter.unusedVariables false
namespace Go.Proofs.Ytoodlanmgboegaa
open Go.RowKit
namespace Chars

theorem drop_el (xs : List Int) (k : Nat) (h : k < xs.length) : xs.drop k = el xs k :: xs.drop (k + 1) := by
  rw [List.drop_eq_getElem_cons h]
  unfold el
  rw [List.getD_eq_getElem?_getD, List.getElem?_eq_getElem h]
  rfl
theorem span_own (xs : List Int) (k : Nat) (h : k < xs.length) : ∃ n : Nat, spanI [cls (el xs k)] xs (k : Nat) = (n : Nat) ∧ 1 ≤ n ∧ k + n ≤ xs.length := by
  have hr := run_le [cls (el xs k)] (xs.drop k)
  rw [List.length_drop] at hr
  refine ⟨run [cls (el xs k)] (xs.drop k), ?_, ?_, by omega⟩
  · unfold spanI
    rw [if_pos (by omega), Int.toNat_natCast]
  · rw [drop_el xs k h]
    unfold run isin
    simp
theorem span_all (xs : List Int) (k : Nat) (h : k < xs.length) : spanI [0, 1, 2, 3, 4, 5] xs (k : Nat) = (xs.length : Int) - (k : Int) := by
  unfold spanI
  rw [if_pos (by omega), Int.toNat_natCast, run_all]
  · rw [List.length_drop]; omega
  · intro j hj
    have := cls_le (el (xs.drop k) j)
    unfold isin
    have : cls (el (xs.drop k) j) = 0 ∨ cls (el (xs.drop k) j) = 1 ∨ cls (el (xs.drop k) j) = 2 ∨ cls (el (xs.drop k) j) = 3 ∨ cls (el (xs.drop k) j) = 4 ∨ cls (el (xs.drop k) j) = 5 := by omega
    simpa using this
theorem span_none (xs : List Int) : spanI [] xs 0 = 0 := by
  unfold spanI
  split
  · cases xs <;> rfl
  · rfl

set_option maxHeartbeats 600000 in
theorem charsCuts_walk (a0 : Option Addr) (len0 cap0 : Nat) (z0 : List Int) (w : World) (w0 : IsRow .u8 w a0 len0 cap0 z0) :
    Calls Try.prog 6 #[.slice a0 len0 cap0] w fun e w' => e = .returned (.bool true) ∧ Below w.heap.size w w' := by
  obtain ⟨xs, hx, hl, hm, hb, hr⟩ := w0.opened
  have HX := Lib.hid hx
  have HB := Lib.hid hb
  have HR := Lib.hid hr
  have hm' := hm
  have HM := Lib.hid hm'
  unfold maxLen at hm
  clear hx hb hr hm' w0
  by_cases c1 : 500 < len0
  · go_enter Try.func6, Try.ntmps6
    go_wp2_with (fail)
    refine (awake_walk _).mono ?_
    rintro e w' ⟨rfl, hb⟩
    have HB3 := Lib.hid hb; clear hb
    go_wp2
    go_ret
    exact ⟨rfl, HB3.out⟩
  go_enter Try.func6, Try.ntmps6
  go_wp2
  go_loopw [3, 4, 5] (fun a i _ wr => ∃ k j : Nat, k ≤ len0 ∧ j ≤ k ∧ a = .int .i64 k ∧ i = .int .i64 j ∧ Below w.heap.size w wr) (fun a _ _ _ => len0 - (intOf a).toNat)
  case atStart => exact ⟨0, 0, by omega, by omega, rfl, rfl, Below.refl _ _⟩
  case round =>
    obtain ⟨k, j, hk, hj, rfl, rfl, hw⟩ := hrel
    have HW := Lib.hid hw; clear hw
    by_cases hlt : k < len0
    · obtain ⟨b, o, rfl, hc⟩ := (HB.out.below HW.out).get k (by rw [HX.out]; exact hlt)
      have hck := hc k (by rw [HX.out]; exact hlt)
      have hcr := HR.out.el (k := k) (by rw [HX.out]; exact hlt)
      have HC0 := Lib.hid hcr.1
      have HC1 := Lib.hid hcr.2
      obtain ⟨n, hn, hn1, hn2⟩ := span_own xs k (by rw [HX.out]; exact hlt)
      rw [HX.out] at hn2
      have hsa := span_all xs k (by rw [HX.out]; exact hlt)
      rw [HX.out] at hsa
      have HN := Lib.hid hn
      have HSA := Lib.hid hsa
      have hne : (((len0 : Int) - (k : Int)) != ((len0 : Int) - (k : Int))) = false := by simp
      clear hc hcr hn hsa
      have hji : (j : Int) ≤ (len0 : Int) := by omega
      go_wp2_with (fail)
      refine (class_walk _ HC0.out HC1.out _).mono ?_
      rintro e w1 ⟨rfl, rfl⟩
      go_wp2_with (fail)
      refine (span_walk _ len0 cap0 xs k _ 1 1 [cls (el xs k)] _ HX.out hl HM.out ?_ HR.out rfl (by unfold maxLen; omega) ?_).mono ?_
      · exact HB.out.below (HW.out.alloc HW.out.size _)
      · exact bytes_new _ _ _ _ _ _ rfl rfl
      rintro e w2 ⟨rfl, hb2⟩
      have HW2 := Lib.hid ((HW.out.alloc HW.out.size _).trans (hb2.mono (HW.out.alloc HW.out.size _).size)); clear hb2
      rw [HN.out]
      go_wp2_with (fail)
      refine (span_walk _ len0 cap0 xs k _ 6 6 [0, 1, 2, 3, 4, 5] _ HX.out hl HM.out ?_ HR.out rfl (by unfold maxLen; omega) ?_).mono ?_
      · exact HB.out.below (HW2.out.alloc HW2.out.size _)
      · exact bytes_new _ _ _ _ _ _ rfl rfl
      rintro e w3 ⟨rfl, hb3⟩
      have HW3 := Lib.hid ((HW2.out.alloc HW2.out.size _).trans (hb3.mono (HW2.out.alloc HW2.out.size _).size)); clear hb3
      rw [HSA.out]
      go_wp2
      go_roundw
      case rel =>
        exact ⟨k + n, j + 1, by omega, by omega, by go_num, by go_num, HW3.out⟩
      case measure => simp [intOf]; omega
    · obtain rfl : k = len0 := by omega
      have hjk : (j : Int) ≤ (k : Int) := by omega
      have heq : ((k : Int) == (k : Int)) = true := by simp
      have hsn := span_none xs
      have HSN := Lib.hid hsn; clear hsn
      go_wp2_with (fail)
      refine (span_walk _ k cap0 xs 0 none 0 0 [] _ HX.out hl HM.out (HB.out.below HW.out) HR.out rfl (by unfold maxLen; omega) (.inl rfl)).mono ?_
      rintro e w2 ⟨rfl, hb2⟩
      have HW2 := Lib.hid (HW.out.trans (hb2.mono HW.out.size)); clear hb2
      rw [HSN.out]
      go_wp2_with (fail)
      refine (awake_walk _).mono ?_
      rintro e w4 ⟨rfl, hb4⟩
      have HW4 := Lib.hid (HW2.out.trans (hb4.mono HW2.out.size)); clear hb4
      go_wp2
      go_ret
      exact ⟨rfl, HW4.out⟩
end Chars
end Go.Proofs.Ytoodlanmgboegaa
