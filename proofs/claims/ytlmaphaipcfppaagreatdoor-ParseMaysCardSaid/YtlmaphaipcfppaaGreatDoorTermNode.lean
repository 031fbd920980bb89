/- The walks of the document's kids of a kind, and of whether a text fits. -/
import Derived.Test.YtlmaphaipcfppaaGreatDoorTermBase
import Derived.Test.YtlmaphaipcfppaaGreatDoorWordsRef
namespace Go.Proofs.YtlmaphaipcfppaaGreatDoor
open Go.RowKit
set_option linter.unusedVariables false
namespace Term
open Words (nameB exnB)

/-- How many kids a kind has; -1. -/
def kidsN (k : Int) : Int :=
  if k = 1 ∨ k = 2 then 0 else if k = 4 ∨ k = 5 ∨ k = 6 ∨ k = 7 ∨ k = 11 ∨ k = 15 then 1 else if k = 3 ∨ k = 8 ∨ k = 9 ∨ k = 10 ∨ k = 12 ∨ k = 13 ∨ k = 16 then 2 else if k = 14 then 3 else -1
theorem kidsN_none {k : Int} (h : k < 1 ∨ 16 < k) : kidsN k = -1 := by unfold kidsN; repeat' split; all_goals omega

set_option maxHeartbeats 1600000 in
theorem refKids_walk (k : Int) (h0 : 0 ≤ k) (h1 : k ≤ 255) (w : World) :
    Calls Tryz.prog 56 #[.int .u8 k] w fun e w' => e = .returned (.int .i64 (kidsN k)) ∧ w = w' := by
  by_cases hk : 1 ≤ k ∧ k ≤ 16
  · have hh : k = 1 ∨ k = 2 ∨ k = 3 ∨ k = 4 ∨ k = 5 ∨ k = 6 ∨ k = 7 ∨ k = 8 ∨ k = 9 ∨ k = 10 ∨ k = 11 ∨ k = 12 ∨ k = 13 ∨ k = 14 ∨ k = 15 ∨ k = 16 := by omega
    clear hk
    rcases hh with rfl | rfl | rfl | rfl | rfl | rfl | rfl | rfl | rfl | rfl | rfl | rfl | rfl | rfl | rfl | rfl
    all_goals
      go_enter Tryz.func56, Tryz.ntmps56
      go_wp2
      go_ret
      exact ⟨ret_i64 (by decide), rfl⟩
  · have hr := kidsN_none (k := k) (by omega)
    have hne : ∀ v : Int, 1 ≤ v → v ≤ 16 → (k == v) = false := fun v h2 h3 => by rw [beq_eq_false_iff_ne]; omega
    have e1 := hne 1 (by omega) (by omega); have e2 := hne 2 (by omega) (by omega); have e3 := hne 3 (by omega) (by omega); have e4 := hne 4 (by omega) (by omega)
    have e5 := hne 5 (by omega) (by omega); have e6 := hne 6 (by omega) (by omega); have e7 := hne 7 (by omega) (by omega); have e8 := hne 8 (by omega) (by omega)
    have e9 := hne 9 (by omega) (by omega); have e10 := hne 10 (by omega) (by omega); have e11 := hne 11 (by omega) (by omega); have e12 := hne 12 (by omega) (by omega)
    have e13 := hne 13 (by omega) (by omega); have e14 := hne 14 (by omega) (by omega); have e15 := hne 15 (by omega) (by omega); have e16 := hne 16 (by omega) (by omega)
    have HR := Lib.hid hr
    clear hr hne hk
    go_enter Tryz.func56, Tryz.ntmps56
    go_wp2
    go_ret
    exact ⟨ret_i64 HR.out.symm, rfl⟩

/-- Is a text there just where it should be? -/
def fitsB (there : Bool) (s : ByteArray) (ok : Bool) : Bool := if there = true then ok else decide (s.size = 0)
theorem fits_walk (there : Bool) (s : ByteArray) (ok : Bool) (w : World) :
    Calls Tryz.prog 57 #[.bool there, .string s, .bool ok] w fun e w' => e = .returned (.bool (fitsB there s ok)) ∧ w = w' := by
  cases there
  · by_cases h0 : s.size = 0
    · have hn : s.toList = [] := by rw [Lib.toList_data]; exact List.length_eq_zero_iff.1 h0
      have hr : fitsB false s ok = true := by unfold fitsB; simp [h0]
      have HR := Lib.hid hr
      clear hr h0
      go_enter Tryz.func57, Tryz.ntmps57
      go_wp2
      go_ret
      exact ⟨ret_bool HR.out.symm, rfl⟩
    · have hne : s.toList ≠ [] := by rw [Lib.toList_data]; exact fun e => h0 (by have := congrArg List.length e; simpa using this)
      have hne' : (!s.toList.isEmpty) = true := by simpa using hne
      have hne2 : s.toList.isEmpty = false := by simpa using hne
      have hr : fitsB false s ok = false := by unfold fitsB; simp [h0]
      have HR := Lib.hid hr
      clear hr h0
      go_enter Tryz.func57, Tryz.ntmps57
      go_wp2
      go_ret
      exact ⟨ret_bool HR.out.symm, rfl⟩
  · cases ok
    all_goals
      go_enter Tryz.func57, Tryz.ntmps57
      go_wp2
      go_ret
      exact ⟨ret_bool (by unfold fitsB; rfl), rfl⟩
end Term
end Go.Proofs.YtlmaphaipcfppaaGreatDoor
