/- The walks of the document's names and exceptions' names. -/
import Derived.Test.YtlmaphaipcfppaaGreatDoorWordsShape
namespace Go.Proofs.YtlmaphaipcfppaaGreatDoor
open Go.RowKit
namespace Words
open Chars (ret_i64 ret_bool cls el isin run spanI BytesAt Bytes bytes_new)

theorem class_in (c : Int) : isin [3, 4, 2] c = decide (2 ≤ c ∧ c ≤ 4) := by
  unfold isin
  rw [decide_eq_decide]
  simp only [List.mem_cons, List.not_mem_nil, or_false]
  omega

set_option maxHeartbeats 400000 in
theorem shape_walk (s : ByteArray) (f : Int) (w : World) (hs : s.size ≤ maxLen) :
    Calls Tryz.prog 75 #[.string s, .int .u8 f] w fun e w' => e = .returned (.bool (wordB f (ints s.data.toList))) ∧ Below w.heap.size w w' := by
  unfold maxLen at hs
  by_cases h0 : s.size = 0
  · have hr : wordB f (ints s.data.toList) = false := by
      rw [show s.data.toList = [] from List.length_eq_zero_iff.1 h0]; exact wordB_nil f
    have h0' : ((s.size : Int) == 0) = true := by simp [h0]
    have HR := Lib.hid hr; have H0 := Lib.hid h0
    clear hr h0
    go_enter Tryz.func75, Tryz.ntmps75
    go_wp2_with (fail)
    go_ret
    exact ⟨ret_bool HR.out.symm, Below.refl _ _⟩
  have h0' : ((s.size : Int) == 0) = false := by simpa using h0
  have hpos : 0 < s.size := by omega
  clear h0
  by_cases h1 : s.size ≤ 16
  · have hcell := el_str s 0 hpos
    have hby := (ints_bytes s.data.toList).el (k := 0) (by rw [ints_size]; exact hpos)
    rw [hcell] at hby
    by_cases h2 : cls (s[0].toNat : Int) = f
    · have hr := wordB_of_allB f (ints s.data.toList) (by intro e; have := ints_size s; rw [e] at this; simp at this; omega) (by rw [ints_size]; exact h1) (by rw [hcell]; exact h2)
      have hyes : (∀ j, j < s.size → isin [3, 4, 2] (cls (el (ints s.data.toList) j)) = true) → wordB f (ints s.data.toList) = true := fun h => by
        rw [hr]
        unfold allB
        refine decide_eq_true fun x hx => ?_
        obtain ⟨j, hj, e⟩ := Chars.mem_el hx
        rw [← e]
        exact h j (by rw [← ints_size]; exact hj)
      have HY := Lib.hid hyes; have H2 := Lib.hid h2; have HBY := Lib.hid hby
      have h2' : (cls (s[0].toNat : Int) != f) = false := by simpa using h2
      clear hr hyes h2 hby hcell
      go_enter Tryz.func75, Tryz.ntmps75
      go_wp2_with (fail)
      refine (Chars.refClass_walk _ HBY.out.1 HBY.out.2 _).mono ?_
      rintro e w' ⟨rfl, hb⟩
      have HB := Lib.hid hb; clear hb
      go_wp2
      clear h2'
      go_loopw [5, 6] (fun i _ wr => ∃ k : Nat, k ≤ s.size ∧ i = .int .i64 k ∧ (∀ j, j < k → isin [3, 4, 2] (cls (el (ints s.data.toList) j)) = true) ∧ Below w.heap.size w wr) (fun i _ _ => s.size - (intOf i).toNat)
      case atStart => exact ⟨0, by omega, rfl, fun j hj => by omega, HB.out⟩
      case round =>
        obtain ⟨k, hk, rfl, ha, hb⟩ := hrel
        have HA := Lib.hid ha; have HW := Lib.hid hb
        clear ha hb
        by_cases hlt : k < s.size
        · have hck := el_str s k hlt
          have hbk := (ints_bytes s.data.toList).el (k := k) (by rw [ints_size]; exact hlt)
          have hci := class_in (cls (s[k].toNat : Int))
          rw [hck] at hbk
          have HCK := Lib.hid hck; have HBK := Lib.hid hbk; have HCI := Lib.hid hci
          clear hck hbk hci
          go_wp2_with (fail)
          refine (Chars.refClass_walk _ HBK.out.1 HBK.out.2 _).mono ?_
          rintro e w' ⟨rfl, hb⟩
          have HW2 := Lib.hid (HW.out.trans (hb.mono HW.out.size)); clear hb
          have hin : isin [3, 4, 2] (cls (el (ints s.data.toList) k)) = isin [3, 4, 2] (cls (s[k].toNat : Int)) := by rw [HCK.out]
          have HIN := Lib.hid hin; clear hin
          generalize hc : cls (s[k].toNat : Int) = c at *
          have HCC := Lib.hid hc; clear hc
          by_cases hc2 : c < 2
          · have hno : isin [3, 4, 2] c = false := by rw [HCI.out]; exact decide_eq_false (by omega)
            have HNO := Lib.hid hno; clear hno
            go_wp2
            go_ret
            exact ⟨ret_bool (wordB_some (k := k) (by rw [ints_size]; exact hlt) (by rw [HIN.out]; exact HNO.out)).symm, HW2.out⟩
          by_cases hc4 : 4 < c
          · have hno : isin [3, 4, 2] c = false := by rw [HCI.out]; exact decide_eq_false (by omega)
            have HNO := Lib.hid hno; clear hno
            go_wp2
            go_ret
            exact ⟨ret_bool (wordB_some (k := k) (by rw [ints_size]; exact hlt) (by rw [HIN.out]; exact HNO.out)).symm, HW2.out⟩
          · have hyes : isin [3, 4, 2] c = true := by rw [HCI.out]; exact decide_eq_true (by omega)
            have HYS := Lib.hid hyes; clear hyes
            go_wp2
            go_roundw
            case rel =>
              refine ⟨k + 1, by omega, by go_num, fun j hj => ?_, HW2.out⟩
              by_cases hjk : j = k
              · rw [hjk, HIN.out]; exact HYS.out
              · exact HA.out j (by omega)
            case measure => simp [intOf]; omega
        · go_wp2
          go_ret
          exact ⟨ret_bool (HY.out fun j hj => HA.out j (by omega)).symm, HW.out⟩
    · have hr : wordB f (ints s.data.toList) = false := wordB_first (by rw [hcell]; exact h2)
      have h2' : (cls (s[0].toNat : Int) != f) = true := by simpa using h2
      have HR := Lib.hid hr; have H2 := Lib.hid h2; have HBY := Lib.hid hby
      clear hr h2 hby hcell
      go_enter Tryz.func75, Tryz.ntmps75
      go_wp2_with (fail)
      refine (Chars.refClass_walk _ HBY.out.1 HBY.out.2 _).mono ?_
      rintro e w' ⟨rfl, hb⟩
      have HB := Lib.hid hb; clear hb
      go_wp2
      go_ret
      exact ⟨ret_bool HR.out.symm, HB.out⟩
  · have hr : wordB f (ints s.data.toList) = false := wordB_long (by rw [ints_size]; exact h1)
    have HR := Lib.hid hr
    clear hr
    go_enter Tryz.func75, Tryz.ntmps75
    go_wp2_with (fail)
    go_ret
    exact ⟨ret_bool HR.out.symm, Below.refl _ _⟩

theorem refName_walk (s : ByteArray) (w : World) (hs : s.size ≤ maxLen) :
    Calls Tryz.prog 54 #[.string s] w fun e w' => e = .returned (.bool (nameB s)) ∧ Below w.heap.size w w' := by
  cases hw : wordB 3 (ints s.data.toList)
  · have hr : nameB s = false := by unfold nameB; rw [hw]; rfl
    have HR := Lib.hid hr; have HW := Lib.hid hw
    clear hr hw
    go_enter Tryz.func54, Tryz.ntmps54
    go_wp2_with (fail)
    refine (shape_walk s 3 _ hs).mono ?_
    rw [HW.out]
    rintro e w' ⟨rfl, hb⟩
    have HB := Lib.hid hb; clear hb
    go_wp2
    go_ret
    exact ⟨ret_bool HR.out.symm, HB.out⟩
  · have hr : nameB s = ((kwN s.data.toList : Int) == 0) := by
      unfold nameB; rw [hw, Bool.true_and, Bool.eq_iff_iff]; simp
    have HR := Lib.hid hr; have HW := Lib.hid hw
    clear hr hw
    go_enter Tryz.func54, Tryz.ntmps54
    go_wp2_with (fail)
    refine (shape_walk s 3 _ hs).mono ?_
    rw [HW.out]
    rintro e w' ⟨rfl, hb⟩
    have HB := Lib.hid hb; clear hb
    go_wp2_with (fail)
    refine (refKeyword_walk s _).mono ?_
    rintro e w2 ⟨rfl, hb⟩
    have HB2 := Lib.hid (HB.out.trans (hb.mono HB.out.size)); clear hb
    generalize kwN s.data.toList = N at *
    go_wp2
    go_ret
    exact ⟨ret_bool HR.out.symm, HB2.out⟩
theorem refExn_walk (s : ByteArray) (w : World) (hs : s.size ≤ maxLen) :
    Calls Tryz.prog 55 #[.string s] w fun e w' => e = .returned (.bool (exnB s)) ∧ Below w.heap.size w w' := by
  go_enter Tryz.func55, Tryz.ntmps55
  go_wp2_with (fail)
  refine (shape_walk s 4 _ hs).mono ?_
  rintro e w' ⟨rfl, hb⟩
  have HB := Lib.hid hb; clear hb
  go_wp2
  go_ret
  exact ⟨rfl, HB.out⟩
end Words
end Go.Proofs.YtlmaphaipcfppaaGreatDoor
