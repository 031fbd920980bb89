/- The walks of the program's names and exceptions' names, one text at a time. -/
import Derived.Test.YtlmaphaipcfppaaGreatDoorWordsKey
import Derived.Lib.ConvBytes
import Derived.Lib.SmallJoins
import Derived.Laws.AppendOwn
namespace Go.Proofs.YtlmaphaipcfppaaGreatDoor
open Go.RowKit
namespace Words
open Chars (ret_i64 ret_bool cls el isin run spanI BytesAt Bytes bytes_new)

theorem size_list (s : ByteArray) : s.data.toList.length = s.size := rfl
theorem ints_size (s : ByteArray) : (ints s.data.toList).length = s.size := by rw [ints_length, size_list]
theorem el_str (s : ByteArray) (k : Nat) (h : k < s.size) : el (ints s.data.toList) k = (s[k].toNat : Int) := by
  rw [el_ints _ k (by rw [size_list]; exact h)]
  rfl
theorem span_zero (ys xs : List Int) : spanI ys xs 0 = (run ys xs : Nat) := by
  unfold spanI
  cases xs with
  | nil => rfl
  | cons x xs => rw [if_pos (by simp)]; rfl
theorem bytesAt_new (w : World) (t : Nat) (s : ByteArray) : BytesAt (Lib.bytesWorld w t s) (some ⟨w.heap.size, 0, none⟩) (ints s.data.toList) := by
  refine .inr ⟨w.heap.size, 0, rfl, fun i hi => ?_⟩
  rw [ints_size] at hi
  rw [Nat.zero_add, Lib.bytesWorld_cell w t s i hi]
  have := el_str s i hi
  unfold el at this
  rw [this, List.getD_eq_getElem?_getD, List.getElem?_eq_getElem (by rw [size_list]; exact hi)]
  rfl

set_option maxHeartbeats 400000 in
theorem whole_walk (s : ByteArray) (q : Option Addr) (m d : Nat) (ys : List Int) (w : World) (hs : s.size ≤ maxLen) (hy : ys.length = m) (hm : m ≤ maxLen) (hq : BytesAt w q ys) :
    Calls Tryz.prog 112 #[.string s, .slice q m d] w fun e w' => e = .returned (.bool (allB ys (ints s.data.toList))) ∧ Below w.heap.size w w' := by
  have hcv := fun W : World => Lib.run_convert_string_bytes (P := Tryz.prog) W 9 22 5 s (u := .string) Tryz.underlying9 Tryz.underlying22 Tryz.underlying5
  have hb : Below w.heap.size w (Lib.bytesWorld w 5 s) := Go.Joins.below_bytesWorld _ _ _ _ (Nat.le_refl _)
  have hc := grownCap_le_maxLen w s.size 0 5 hs
  have hg := grownCap_ge w s.size 0 5
  have HB := Lib.hid hb; have HC := Lib.hid hc; have HG := Lib.hid hg; have HQ := Lib.hid hq; have HY := Lib.hid hy; have HM := Lib.hid hm
  clear hb hc hg hq hy hm
  go_enter Tryz.func112, Tryz.ntmps112
  go_wp2_with (fail)
  refine (Chars.span_walk _ s.size _ (ints s.data.toList) 0 q m d ys _ (ints_size s) HG.out HC.out (bytesAt_new w _ s) (ints_bytes _) HY.out HM.out (HQ.out.below HB.out)).mono ?_
  rintro e w' ⟨rfl, hb2⟩
  have HB2 := Lib.hid (HB.out.trans (hb2.mono HB.out.size)); clear hb2
  unfold maxLen at hs
  go_wp2
  go_ret
  refine ⟨ret_bool ?_, HB2.out⟩
  rw [span_zero, ← ints_size s, run_allB]

theorem cells3 (w : World) (t : Nat) : BytesAt (w.alloc (.cells #[.int .u8 3, .int .u8 4, .int .u8 2] t)) (some ⟨w.heap.size, 0, none⟩) [3, 4, 2] := bytes_new w _ _ _ _ _ rfl rfl

set_option maxHeartbeats 400000 in
theorem begins_walk (s : ByteArray) (f : Int) (w : World) (hs : s.size ≤ maxLen) :
    Calls Tryz.prog 107 #[.string s, .int .u8 f] w fun e w' => e = .returned (.bool (wordB f (ints s.data.toList))) ∧ Below w.heap.size w w' := by
  by_cases h0 : s.size = 0
  · have hn : s.toList = [] := by rw [Lib.toList_data]; exact List.length_eq_zero_iff.1 h0
    have hr : wordB f (ints s.data.toList) = false := by
      rw [show s.data.toList = [] from List.length_eq_zero_iff.1 h0]; exact wordB_nil f
    have HR := Lib.hid hr
    clear hr h0
    go_enter Tryz.func107, Tryz.ntmps107
    go_wp2_with (fail)
    go_ret
    exact ⟨ret_bool HR.out.symm, Below.refl _ _⟩
  have hne : s.toList ≠ [] := by rw [Lib.toList_data]; exact fun e => h0 (by rw [← size_list, e]; rfl)
  have hne' : (!s.toList.isEmpty) = true := by simpa using hne
  have hpos : 0 < s.size := by omega
  clear h0
  by_cases h1 : s.size ≤ 16
  · have hcell := el_str s 0 hpos
    have hby := (ints_bytes s.data.toList).el (k := 0) (by rw [ints_size]; exact hpos)
    rw [hcell] at hby
    by_cases h2 : cls (s[0].toNat : Int) = f
    · have hr := wordB_of_allB f (ints s.data.toList) (by intro e; have := ints_size s; rw [e] at this; simp at this; omega) (by rw [ints_size]; exact h1) (by rw [hcell]; exact h2)
      have HR := Lib.hid hr; have H2 := Lib.hid h2; have HBY := Lib.hid hby; have HS := Lib.hid hs
      have h2' : (cls (s[0].toNat : Int) == f) = true := by simpa using h2
      clear hr h2 hby hcell hs
      go_enter Tryz.func107, Tryz.ntmps107
      go_wp2_with (fail)
      refine (Chars.class_walk _ HBY.out.1 HBY.out.2 _).mono ?_
      rintro e w' ⟨rfl, rfl⟩
      go_wp2_with (fail)
      refine (whole_walk s _ 3 3 [3, 4, 2] _ HS.out rfl (by unfold maxLen; omega) (cells3 w _)).mono ?_
      rintro e w' ⟨rfl, hb⟩
      have HB := Lib.hid hb; clear hb
      go_wp2
      go_ret
      exact ⟨ret_bool HR.out.symm, ((Below.refl _ _).alloc (Nat.le_refl _) _).trans (HB.out.mono (by simp))⟩
    · have hr : wordB f (ints s.data.toList) = false := wordB_first (by rw [hcell]; exact h2)
      have h2' : (cls (s[0].toNat : Int) == f) = false := by simpa using h2
      have HR := Lib.hid hr; have H2 := Lib.hid h2; have HBY := Lib.hid hby
      clear hr h2 hby hcell hs
      go_enter Tryz.func107, Tryz.ntmps107
      go_wp2_with (fail)
      refine (Chars.class_walk _ HBY.out.1 HBY.out.2 _).mono ?_
      rintro e w' ⟨rfl, rfl⟩
      go_wp2
      go_ret
      exact ⟨ret_bool HR.out.symm, Below.refl _ _⟩
  · have hr : wordB f (ints s.data.toList) = false := wordB_long (by rw [ints_size]; exact h1)
    have HR := Lib.hid hr
    clear hr
    unfold maxLen at hs
    go_enter Tryz.func107, Tryz.ntmps107
    go_wp2_with (fail)
    go_ret
    exact ⟨ret_bool HR.out.symm, Below.refl _ _⟩

end Words
end Go.Proofs.YtlmaphaipcfppaaGreatDoor
