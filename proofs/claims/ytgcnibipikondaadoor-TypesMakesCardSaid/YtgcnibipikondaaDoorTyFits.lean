/- The walk of the program's fits: may a node be, its kids left out? -/
import Derived.Test.YtgcnibipikondaaDoorTyM
import Derived.BigQuiet
import Derived.Lib.LaidTab
namespace Go.Proofs.YtgcnibipikondaaDoor
open Go.RowKit
set_option linter.unusedVariables false
namespace Types

/-- How many kids each kind has, as the program's table says. -/
def kidsTab : List Int := [0, 0, 2, 1, 2, 0]
def KidsLaid (w : World) : Prop := ∀ k, k < 6 → w.cell? ⟨0, k, none⟩ = some (.int .i64 (kidsTab.getD k 0))
theorem KidsLaid.below {w W : World} (h : KidsLaid w) (hb : Below w.heap.size w W) : KidsLaid W := fun k hk => by
  have hl : 0 < w.heap.size := World.block_lt_of_cell? w _ (h k hk)
  exact (hb.cell (p := ⟨0, k, none⟩) hl).trans (h k hk)
theorem gKids : Tryd.prog.globalNamed "enclave/types.kids" = some 0 := by kernel_rfl
theorem kidsLaid_of_tab {W : World} (h : Lib.TabIs Tryd.prog W "enclave/types.kids" .i64 kidsTab) : KidsLaid W := fun k hk => h.cell gKids k hk

theorem drewN_below {B : Nat} {a w : World} (h : Below B a w) (n : Nat) : Below B a (w.drewN n) := h.trans ⟨rfl, rfl, rfl, Nat.le_refl _, fun _ _ => rfl⟩

set_option maxRecDepth 100000 in
set_option maxHeartbeats 6400000 in
theorem fits_walk (h : Hd) (p : Option Addr) (l c : Nat) (w : World) (ho : HdOk h) (hl : l ≤ maxLen) (hk : KidsLaid w) :
    Calls Tryd.prog 30 #[.agg #[.int .u8 h.k, .int .i64 h.v, .slice p l c]] w fun e w' => e = .returned (.bool (nodeB h l)) ∧ Below w.heap.size w w' := by
  obtain ⟨k, v⟩ := h
  have ho1 := ho.k
  have ho2 := ho.v
  simp only at ho1 ho2
  unfold maxLen at hl
  have hbox : ∀ O : Obj, Below w.heap.size w (w.alloc O) := fun O => (Below.refl _ _).alloc (Nat.le_refl _) _
  have hkk := fun O : Obj => hk.below (hbox O)
  have HBOX := Lib.hid hbox
  clear hbox ho
  have hcase : k = 0 ∨ k = 1 ∨ k = 2 ∨ k = 3 ∨ k = 4 ∨ k = 5 ∨ 5 < k := by omega
  have hno : ∀ W : World, KidsLaid W → W.cell? ⟨0, 1, none⟩ = some (.int .i64 0) ∧ W.cell? ⟨0, 2, none⟩ = some (.int .i64 2) ∧ W.cell? ⟨0, 3, none⟩ = some (.int .i64 1) ∧ W.cell? ⟨0, 4, none⟩ = some (.int .i64 2) ∧ W.cell? ⟨0, 5, none⟩ = some (.int .i64 0) := fun W h =>
    ⟨h 1 (by omega), h 2 (by omega), h 3 (by omega), h 4 (by omega), h 5 (by omega)⟩
  obtain ⟨k1, k2, k3, k4, k5⟩ := hno _ (hkk (.cells #[.int .u8 k, .int .i64 v, .slice p l c] 24))
  clear hk hkk hno
  rcases hcase with rfl | rfl | rfl | rfl | rfl | rfl | h5
  · -- kind 0
    have hr : nodeB ⟨0, v⟩ l = false := by unfold nodeB kidsN; apply decide_eq_false; simp
    have HR := Lib.hid hr
    clear hr k1 k2 k3 k4 k5 ho1
    go_enter Tryd.func30, Tryd.ntmps30
    go_wp2_with (fail)
    go_quiet (fail)
    go_wp2_with (fail)
    go_ret
    exact ⟨ret_bool HR.out.symm, drewN_below (HBOX.out _) _⟩
  · -- kind 1
    by_cases hln : l = 0
    · subst hln
      have b0 : (((0 : Nat) : Int) != 0) = false := by decide
      have hcv : v = 0 ∨ 0 < v ∨ v < 0 := by omega
      rcases hcv with rfl | hv | hv
      · have hr : nodeB ⟨1, 0⟩ 0 = true := by unfold nodeB kidsN; decide
        have HR := Lib.hid hr
        clear hr
        go_enter Tryd.func30, Tryd.ntmps30
        go_wp2_with (fail)
        go_quiet (fail)
        go_wp2_with (fail)
        go_ret
        exact ⟨ret_bool HR.out.symm, drewN_below (HBOX.out _) _⟩
      · have hr : nodeB ⟨1, v⟩ 0 = false := by unfold nodeB kidsN; apply decide_eq_false; simp; omega
        have HR := Lib.hid hr
        clear hr
        have hv0 : (v == 0) = false := by rw [beq_eq_false_iff_ne]; omega
        have hv2 : decide (0 < v) = true := decide_eq_true hv
        go_enter Tryd.func30, Tryd.ntmps30
        go_wp2_with (fail)
        go_quiet (fail)
        go_wp2_with (fail)
        go_ret
        exact ⟨ret_bool HR.out.symm, drewN_below (HBOX.out _) _⟩
      · have hr : nodeB ⟨1, v⟩ 0 = false := by unfold nodeB kidsN; apply decide_eq_false; simp; omega
        have HR := Lib.hid hr
        clear hr
        have hv0 : (v == 0) = false := by rw [beq_eq_false_iff_ne]; omega
        have hv1 : ¬ 0 < v := by omega
        have hv2 : decide (0 < v) = false := decide_eq_false hv1
        go_enter Tryd.func30, Tryd.ntmps30
        go_wp2_with (fail)
        go_quiet (fail)
        go_wp2_with (fail)
        go_ret
        exact ⟨ret_bool HR.out.symm, drewN_below (HBOX.out _) _⟩
    · have hr : nodeB ⟨1, v⟩ l = false := by unfold nodeB kidsN; apply decide_eq_false; simp; omega
      have b0 : ((l : Int) != 0) = true := by rw [bne_iff_ne]; omega
      have HR := Lib.hid hr
      clear hr hln
      go_enter Tryd.func30, Tryd.ntmps30
      go_wp2_with (fail)
      go_quiet (fail)
      go_wp2_with (fail)
      go_ret
      exact ⟨ret_bool HR.out.symm, drewN_below (HBOX.out _) _⟩
  · -- kind 2
    by_cases hln : l = 2
    · subst hln
      have b0 : (((2 : Nat) : Int) != 2) = false := by decide
      have hcv : v = 0 ∨ 0 < v ∨ v < 0 := by omega
      rcases hcv with rfl | hv | hv
      · have hr : nodeB ⟨2, 0⟩ 2 = true := by unfold nodeB kidsN; decide
        have HR := Lib.hid hr
        clear hr
        go_enter Tryd.func30, Tryd.ntmps30
        go_wp2_with (fail)
        go_quiet (fail)
        go_wp2_with (fail)
        go_ret
        exact ⟨ret_bool HR.out.symm, drewN_below (HBOX.out _) _⟩
      · have hr : nodeB ⟨2, v⟩ 2 = false := by unfold nodeB kidsN; apply decide_eq_false; simp; omega
        have HR := Lib.hid hr
        clear hr
        have hv0 : (v == 0) = false := by rw [beq_eq_false_iff_ne]; omega
        have hv2 : decide (0 < v) = true := decide_eq_true hv
        go_enter Tryd.func30, Tryd.ntmps30
        go_wp2_with (fail)
        go_quiet (fail)
        go_wp2_with (fail)
        go_ret
        exact ⟨ret_bool HR.out.symm, drewN_below (HBOX.out _) _⟩
      · have hr : nodeB ⟨2, v⟩ 2 = false := by unfold nodeB kidsN; apply decide_eq_false; simp; omega
        have HR := Lib.hid hr
        clear hr
        have hv0 : (v == 0) = false := by rw [beq_eq_false_iff_ne]; omega
        have hv1 : ¬ 0 < v := by omega
        have hv2 : decide (0 < v) = false := decide_eq_false hv1
        go_enter Tryd.func30, Tryd.ntmps30
        go_wp2_with (fail)
        go_quiet (fail)
        go_wp2_with (fail)
        go_ret
        exact ⟨ret_bool HR.out.symm, drewN_below (HBOX.out _) _⟩
    · have hr : nodeB ⟨2, v⟩ l = false := by unfold nodeB kidsN; apply decide_eq_false; simp; omega
      have b0 : ((l : Int) != 2) = true := by rw [bne_iff_ne]; omega
      have HR := Lib.hid hr
      clear hr hln
      go_enter Tryd.func30, Tryd.ntmps30
      go_wp2_with (fail)
      go_quiet (fail)
      go_wp2_with (fail)
      go_ret
      exact ⟨ret_bool HR.out.symm, drewN_below (HBOX.out _) _⟩
  · -- kind 3
    by_cases hln : l = 1
    · subst hln
      have b0 : (((1 : Nat) : Int) != 1) = false := by decide
      have hcv : v = 0 ∨ 0 < v ∨ v < 0 := by omega
      rcases hcv with rfl | hv | hv
      · have hr : nodeB ⟨3, 0⟩ 1 = true := by unfold nodeB kidsN; decide
        have HR := Lib.hid hr
        clear hr
        go_enter Tryd.func30, Tryd.ntmps30
        go_wp2_with (fail)
        go_quiet (fail)
        go_wp2_with (fail)
        go_ret
        exact ⟨ret_bool HR.out.symm, drewN_below (HBOX.out _) _⟩
      · have hr : nodeB ⟨3, v⟩ 1 = false := by unfold nodeB kidsN; apply decide_eq_false; simp; omega
        have HR := Lib.hid hr
        clear hr
        have hv0 : (v == 0) = false := by rw [beq_eq_false_iff_ne]; omega
        have hv2 : decide (0 < v) = true := decide_eq_true hv
        go_enter Tryd.func30, Tryd.ntmps30
        go_wp2_with (fail)
        go_quiet (fail)
        go_wp2_with (fail)
        go_ret
        exact ⟨ret_bool HR.out.symm, drewN_below (HBOX.out _) _⟩
      · have hr : nodeB ⟨3, v⟩ 1 = false := by unfold nodeB kidsN; apply decide_eq_false; simp; omega
        have HR := Lib.hid hr
        clear hr
        have hv0 : (v == 0) = false := by rw [beq_eq_false_iff_ne]; omega
        have hv1 : ¬ 0 < v := by omega
        have hv2 : decide (0 < v) = false := decide_eq_false hv1
        go_enter Tryd.func30, Tryd.ntmps30
        go_wp2_with (fail)
        go_quiet (fail)
        go_wp2_with (fail)
        go_ret
        exact ⟨ret_bool HR.out.symm, drewN_below (HBOX.out _) _⟩
    · have hr : nodeB ⟨3, v⟩ l = false := by unfold nodeB kidsN; apply decide_eq_false; simp; omega
      have b0 : ((l : Int) != 1) = true := by rw [bne_iff_ne]; omega
      have HR := Lib.hid hr
      clear hr hln
      go_enter Tryd.func30, Tryd.ntmps30
      go_wp2_with (fail)
      go_quiet (fail)
      go_wp2_with (fail)
      go_ret
      exact ⟨ret_bool HR.out.symm, drewN_below (HBOX.out _) _⟩
  · -- kind 4
    by_cases hln : l = 2
    · subst hln
      have b0 : (((2 : Nat) : Int) != 2) = false := by decide
      have hcv : v = 0 ∨ 0 < v ∨ v < 0 := by omega
      rcases hcv with rfl | hv | hv
      · have hr : nodeB ⟨4, 0⟩ 2 = true := by unfold nodeB kidsN; decide
        have HR := Lib.hid hr
        clear hr
        go_enter Tryd.func30, Tryd.ntmps30
        go_wp2_with (fail)
        go_quiet (fail)
        go_wp2_with (fail)
        go_ret
        exact ⟨ret_bool HR.out.symm, drewN_below (HBOX.out _) _⟩
      · have hr : nodeB ⟨4, v⟩ 2 = false := by unfold nodeB kidsN; apply decide_eq_false; simp; omega
        have HR := Lib.hid hr
        clear hr
        have hv0 : (v == 0) = false := by rw [beq_eq_false_iff_ne]; omega
        have hv2 : decide (0 < v) = true := decide_eq_true hv
        go_enter Tryd.func30, Tryd.ntmps30
        go_wp2_with (fail)
        go_quiet (fail)
        go_wp2_with (fail)
        go_ret
        exact ⟨ret_bool HR.out.symm, drewN_below (HBOX.out _) _⟩
      · have hr : nodeB ⟨4, v⟩ 2 = false := by unfold nodeB kidsN; apply decide_eq_false; simp; omega
        have HR := Lib.hid hr
        clear hr
        have hv0 : (v == 0) = false := by rw [beq_eq_false_iff_ne]; omega
        have hv1 : ¬ 0 < v := by omega
        have hv2 : decide (0 < v) = false := decide_eq_false hv1
        go_enter Tryd.func30, Tryd.ntmps30
        go_wp2_with (fail)
        go_quiet (fail)
        go_wp2_with (fail)
        go_ret
        exact ⟨ret_bool HR.out.symm, drewN_below (HBOX.out _) _⟩
    · have hr : nodeB ⟨4, v⟩ l = false := by unfold nodeB kidsN; apply decide_eq_false; simp; omega
      have b0 : ((l : Int) != 2) = true := by rw [bne_iff_ne]; omega
      have HR := Lib.hid hr
      clear hr hln
      go_enter Tryd.func30, Tryd.ntmps30
      go_wp2_with (fail)
      go_quiet (fail)
      go_wp2_with (fail)
      go_ret
      exact ⟨ret_bool HR.out.symm, drewN_below (HBOX.out _) _⟩
  · -- kind 5
    by_cases hln : l = 0
    · subst hln
      have b0 : (((0 : Nat) : Int) != 0) = false := by decide
      have hcv : v = 0 ∨ 0 < v ∨ v < 0 := by omega
      rcases hcv with rfl | hv | hv
      · have hr : nodeB ⟨5, 0⟩ 0 = true := by unfold nodeB kidsN; decide
        have HR := Lib.hid hr
        clear hr
        go_enter Tryd.func30, Tryd.ntmps30
        go_wp2_with (fail)
        go_quiet (fail)
        go_wp2_with (fail)
        go_ret
        exact ⟨ret_bool HR.out.symm, drewN_below (HBOX.out _) _⟩
      · have hr : nodeB ⟨5, v⟩ 0 = true := by unfold nodeB kidsN; apply decide_eq_true; simp; omega
        have HR := Lib.hid hr
        clear hr
        have hv0 : (v == 0) = false := by rw [beq_eq_false_iff_ne]; omega
        have hv2 : decide (0 < v) = true := decide_eq_true hv
        go_enter Tryd.func30, Tryd.ntmps30
        go_wp2_with (fail)
        go_quiet (fail)
        go_wp2_with (fail)
        go_ret
        exact ⟨ret_bool HR.out.symm, drewN_below (HBOX.out _) _⟩
      · have hr : nodeB ⟨5, v⟩ 0 = false := by unfold nodeB kidsN; apply decide_eq_false; simp; omega
        have HR := Lib.hid hr
        clear hr
        have hv0 : (v == 0) = false := by rw [beq_eq_false_iff_ne]; omega
        have hv1 : ¬ 0 < v := by omega
        have hv2 : decide (0 < v) = false := decide_eq_false hv1
        go_enter Tryd.func30, Tryd.ntmps30
        go_wp2_with (fail)
        go_quiet (fail)
        go_wp2_with (fail)
        go_ret
        exact ⟨ret_bool HR.out.symm, drewN_below (HBOX.out _) _⟩
    · have hr : nodeB ⟨5, v⟩ l = false := by unfold nodeB kidsN; apply decide_eq_false; simp; omega
      have b0 : ((l : Int) != 0) = true := by rw [bne_iff_ne]; omega
      have HR := Lib.hid hr
      clear hr hln
      go_enter Tryd.func30, Tryd.ntmps30
      go_wp2_with (fail)
      go_quiet (fail)
      go_wp2_with (fail)
      go_ret
      exact ⟨ret_bool HR.out.symm, drewN_below (HBOX.out _) _⟩
  · -- kind 6
    have hr : nodeB ⟨k, v⟩ l = false := by unfold nodeB kidsN; apply decide_eq_false; simp; omega
    have HR := Lib.hid hr
    have e1 : decide (k < 1) = false := decide_eq_false (by omega)
    have e2 : decide (5 < k) = true := decide_eq_true h5
    clear hr k1 k2 k3 k4 k5 ho1
    go_enter Tryd.func30, Tryd.ntmps30
    go_wp2_with (fail)
    go_quiet (fail)
    go_wp2_with (fail)
    go_ret
    exact ⟨ret_bool HR.out.symm, drewN_below (HBOX.out _) _⟩
end Types
end Go.Proofs.YtgcnibipikondaaDoor
