/- The walk of the program's test of digits. -/
import Derived.Test.YtlmaphaipcfppaaGreatDoorWordsShape
namespace Go.Proofs.YtlmaphaipcfppaaGreatDoor
open Go.RowKit
namespace Words
open Chars (ret_i64 ret_bool cls el isin run spanI BytesAt Bytes bytes_new)

theorem cells1 (w : World) (t : Nat) : BytesAt (w.alloc (.cells #[.int .u8 2] t)) (some ⟨w.heap.size, 0, none⟩) [2] := bytes_new w _ _ _ _ _ rfl rfl

theorem digits_walk (s : ByteArray) (w : World) (hs : s.size ≤ maxLen) :
    Calls Tryz.prog 103 #[.string s] w fun e w' => e = .returned (.bool (decide (s.data.toList ≠ []) && digB s.data.toList)) ∧ Below w.heap.size w w' := by
  by_cases h0 : s.size = 0
  · have hn : s.toList = [] := by rw [Lib.toList_data]; exact List.length_eq_zero_iff.1 h0
    have hr : (decide (s.data.toList ≠ []) && digB s.data.toList) = false := by
      rw [show s.data.toList = [] from List.length_eq_zero_iff.1 h0]; rfl
    have HR := Lib.hid hr
    clear hr h0
    go_enter Tryz.func103, Tryz.ntmps103
    go_wp2_with (fail)
    go_ret
    exact ⟨ret_bool HR.out.symm, Below.refl _ _⟩
  have hl : s.data.toList ≠ [] := fun e => h0 (by rw [← size_list, e]; rfl)
  have hne : s.toList ≠ [] := by rw [Lib.toList_data]; exact hl
  have hne' : (!s.toList.isEmpty) = true := by simpa using hne
  have hr : (decide (s.data.toList ≠ []) && digB s.data.toList) = allB [2] (ints s.data.toList) := by
    rw [decide_eq_true hl, digB_allB]; rfl
  have HR := Lib.hid hr; have HS := Lib.hid hs
  clear hr h0 hl hs
  go_enter Tryz.func103, Tryz.ntmps103
  go_wp2_with (fail)
  refine (whole_walk s _ 1 1 [2] _ HS.out rfl (by unfold maxLen; omega) (cells1 w _)).mono ?_
  rintro e w' ⟨rfl, hb⟩
  have HB := Lib.hid hb; clear hb
  go_wp2
  go_ret
  exact ⟨ret_bool HR.out.symm, ((Below.refl _ _).alloc (Nat.le_refl _) _).trans (HB.out.mono (by simp))⟩
end Words
end Go.Proofs.YtlmaphaipcfppaaGreatDoor
