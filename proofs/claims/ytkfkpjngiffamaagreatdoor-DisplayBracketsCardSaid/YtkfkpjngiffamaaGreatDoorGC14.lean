import Derived.Test.YtkfkpjngiffamaaGreatDoorGC13
import Derived.RegionTactic
import Derived.BigRegion
import Derived.Test.YtkfkpjngiffamaaGreatDoorGC01
import Derived.Test.YtkfkpjngiffamaaGreatDoorGC03
namespace Go.Proofs.YtkfkpjngiffamaaGreatDoor
open Go.RowKit
set_option linter.unusedVariables false
namespace Term

def justP (h f : Hd) (l : Nat) (kids : Int) : Prop := 0 ≤ h.pl ∧ h.op = f.op ∧ h.n = f.n ∧ h.name = f.name ∧ h.arg = f.arg ∧ h.exn = f.exn ∧ (l : Int) = kids
instance (h f : Hd) (l : Nat) (kids : Int) : Decidable (justP h f l kids) := by unfold justP; infer_instance
def justB (h f : Hd) (l : Nat) (kids : Int) : Bool := decide (justP h f l kids)
theorem just_of {k op pl nn op' nn' kids : Int} {nm ar ex nm' ar' ex' : ByteArray} {fk fp : Int} {l : Nat} (h1 : 0 ≤ pl) (h2 : op = op') (h3 : nn = nn') (h4 : nm.toList = nm'.toList) (h5 : ar.toList = ar'.toList) (h6 : ex.toList = ex'.toList) (h7 : (l : Int) = kids) :
  justP ⟨k, op, pl, nn, nm, ar, ex⟩ ⟨fk, op', fp, nn', nm', ar', ex'⟩ l kids := ⟨h1, h2, h3, toList_inj h4, toList_inj h5, toList_inj h6, h7⟩

set_option maxRecDepth 100000 in
set_option maxHeartbeats 6400000 in
theorem just_walk (h f : Hd) (p : Option Addr) (l c : Nat) (kids : Int) (w : World) (hl : l ≤ maxLen) :
  Calls Tryz.prog 116 #[.agg #[.int .u8 h.k, .int .u8 h.op, .int .i64 h.pl, .int .i64 h.n, .string h.name, .string h.arg, .string h.exn, .slice p l c], .int .i64 kids,
   .agg #[.int .u8 f.k, .int .u8 f.op, .int .i64 f.pl, .int .i64 f.n, .string f.name, .string f.arg, .string f.exn]] w fun e w' => e = .returned (.bool (justB h f l kids)) ∧ Below w.heap.size w w' := by
 unfold maxLen at hl
 obtain ⟨k, op, pl, nn, nm, ar, ex⟩ := h
 obtain ⟨fk, op', fp, nn', nm', ar', ex'⟩ := f
 have hbox : ∀ O O' : Obj, Below w.heap.size w ((w.alloc O).alloc O').drew := fun O O' => (((Below.refl _ _).alloc (Nat.le_refl _) O).alloc (by simp) O').drew
 have HBOX := Lib.hid hbox
 clear hbox
 by_cases hj : justP ⟨k, op, pl, nn, nm, ar, ex⟩ ⟨fk, op', fp, nn', nm', ar', ex'⟩ l kids
 ·have hr : justB ⟨k, op, pl, nn, nm, ar, ex⟩ ⟨fk, op', fp, nn', nm', ar', ex'⟩ l kids = true := decide_eq_true hj
  have HR := Lib.hid hr
  unfold justP at hj
  simp only at hj
  clear hr
  obtain ⟨hp, rfl, rfl, rfl, rfl, rfl, rfl⟩ := hj
  go_enter Tryz.func116, Tryz.ntmps116
  go_wp2_with (fail)
  go_region
  all_goals go_wp2_with (fail)
  all_goals go_ret
  all_goals exact ⟨ret_bool HR.out.symm, HBOX.out _ _⟩
 ·have hr : justB ⟨k, op, pl, nn, nm, ar, ex⟩ ⟨fk, op', fp, nn', nm', ar', ex'⟩ l kids = false := decide_eq_false hj
  have HR := Lib.hid hr; have HJ := Lib.hid hj
  clear hr hj
  go_enter Tryz.func116, Tryz.ntmps116
  go_wp2_with (fail)
  go_region
  all_goals go_wp2_with (fail)
  all_goals go_ret
  all_goals first
   | exact ⟨ret_bool HR.out.symm, HBOX.out _ _⟩
   | exact ⟨ret_bool ((beq_eq_false_iff_ne.2 fun e => HJ.out (just_of (by assumption) (by assumption) (by assumption) (by assumption) (by assumption) (by assumption) e)).trans HR.out.symm), HBOX.out _ _⟩
end Term
end Go.Proofs.YtkfkpjngiffamaaGreatDoor
namespace Go.Proofs.YtkfkpjngiffamaaGreatDoor
open Go.RowKit
set_option linter.unusedVariables false
namespace Term
open Words (nameB exnB)

theorem fitsB_none (s : ByteArray) (ok : Bool) : fitsB false s ok = decide (s = ⟨#[]⟩) := by
 unfold fitsB
 rw [if_neg Bool.false_ne_true, decide_eq_decide]
 constructor
 ·intro h
  obtain ⟨⟨l⟩⟩ := s
  have : l.length = 0 := h
  rw [List.length_eq_zero_iff.1 this]
 ·intro h; rw [h]; rfl
theorem fitsB_there (s : ByteArray) (ok : Bool) : fitsB true s ok = ok := by unfold fitsB; rw [if_pos rfl]
theorem node_is1 (op pl nn : Int) (nm ar ex : ByteArray) (l : Nat) : nodeB ⟨1, op, pl, nn, nm, ar, ex⟩ l = (justB ⟨1, op, pl, nn, nm, ar, ex⟩ ⟨0, 0, 0, nn, ⟨#[]⟩, ⟨#[]⟩, ⟨#[]⟩⟩ l 0 && decide (0 ≤ nn ∧ nn ≤ 2147483647)) := by
 have hk : kidsN 1 = 0 := by decide
 have h1 : nameF 1 = false := by decide
 have h2 : argF 1 = false := by decide
 have h3 : exnF 1 = false := by decide
 unfold nodeB justB justP opOk nOk
 simp only [hk, h1, h2, h3, fitsB_none]
 rw [Bool.eq_iff_iff]
 simp only [Bool.and_eq_true, decide_eq_true_eq]
 generalize nameB nm = x1
 generalize nameB ar = x2
 generalize exnB ex = x3
 grind
theorem node_is2 (op pl nn : Int) (nm ar ex : ByteArray) (l : Nat) : nodeB ⟨2, op, pl, nn, nm, ar, ex⟩ l = (justB ⟨2, op, pl, nn, nm, ar, ex⟩ ⟨0, 0, 0, 0, nm, ⟨#[]⟩, ⟨#[]⟩⟩ l 0 && nameB nm) := by
 have hk : kidsN 2 = 0 := by decide
 have h1 : nameF 2 = true := by decide
 have h2 : argF 2 = false := by decide
 have h3 : exnF 2 = false := by decide
 unfold nodeB justB justP opOk nOk
 simp only [hk, h1, h2, h3, fitsB_none, fitsB_there]
 rw [Bool.eq_iff_iff]
 simp only [Bool.and_eq_true, decide_eq_true_eq]
 generalize nameB nm = x1
 generalize nameB ar = x2
 generalize exnB ex = x3
 grind
theorem node_is3 (op pl nn : Int) (nm ar ex : ByteArray) (l : Nat) : nodeB ⟨3, op, pl, nn, nm, ar, ex⟩ l = (justB ⟨3, op, pl, nn, nm, ar, ex⟩ ⟨0, 0, 0, 0, ⟨#[]⟩, ⟨#[]⟩, ⟨#[]⟩⟩ l 2) := by
 have hk : kidsN 3 = 2 := by decide
 have h1 : nameF 3 = false := by decide
 have h2 : argF 3 = false := by decide
 have h3 : exnF 3 = false := by decide
 unfold nodeB justB justP opOk nOk
 simp only [hk, h1, h2, h3, fitsB_none]
 rw [Bool.eq_iff_iff]
 simp only [Bool.and_eq_true, decide_eq_true_eq]
 generalize nameB nm = x1
 generalize nameB ar = x2
 generalize exnB ex = x3
 grind
theorem node_is4 (op pl nn : Int) (nm ar ex : ByteArray) (l : Nat) : nodeB ⟨4, op, pl, nn, nm, ar, ex⟩ l = (justB ⟨4, op, pl, nn, nm, ar, ex⟩ ⟨0, 0, 0, 0, ⟨#[]⟩, ⟨#[]⟩, ⟨#[]⟩⟩ l 1) := by
 have hk : kidsN 4 = 1 := by decide
 have h1 : nameF 4 = false := by decide
 have h2 : argF 4 = false := by decide
 have h3 : exnF 4 = false := by decide
 unfold nodeB justB justP opOk nOk
 simp only [hk, h1, h2, h3, fitsB_none]
 rw [Bool.eq_iff_iff]
 simp only [Bool.and_eq_true, decide_eq_true_eq]
 generalize nameB nm = x1
 generalize nameB ar = x2
 generalize exnB ex = x3
 grind
theorem node_is5 (op pl nn : Int) (nm ar ex : ByteArray) (l : Nat) : nodeB ⟨5, op, pl, nn, nm, ar, ex⟩ l = (justB ⟨5, op, pl, nn, nm, ar, ex⟩ ⟨0, 0, 0, 0, ⟨#[]⟩, ⟨#[]⟩, ⟨#[]⟩⟩ l 1) := by
 have hk : kidsN 5 = 1 := by decide
 have h1 : nameF 5 = false := by decide
 have h2 : argF 5 = false := by decide
 have h3 : exnF 5 = false := by decide
 unfold nodeB justB justP opOk nOk
 simp only [hk, h1, h2, h3, fitsB_none]
 rw [Bool.eq_iff_iff]
 simp only [Bool.and_eq_true, decide_eq_true_eq]
 generalize nameB nm = x1
 generalize nameB ar = x2
 generalize exnB ex = x3
 grind
theorem node_is6 (op pl nn : Int) (nm ar ex : ByteArray) (l : Nat) : nodeB ⟨6, op, pl, nn, nm, ar, ex⟩ l = (justB ⟨6, op, pl, nn, nm, ar, ex⟩ ⟨0, 0, 0, 0, ⟨#[]⟩, ⟨#[]⟩, ⟨#[]⟩⟩ l 1) := by
 have hk : kidsN 6 = 1 := by decide
 have h1 : nameF 6 = false := by decide
 have h2 : argF 6 = false := by decide
 have h3 : exnF 6 = false := by decide
 unfold nodeB justB justP opOk nOk
 simp only [hk, h1, h2, h3, fitsB_none]
 rw [Bool.eq_iff_iff]
 simp only [Bool.and_eq_true, decide_eq_true_eq]
 generalize nameB nm = x1
 generalize nameB ar = x2
 generalize exnB ex = x3
 grind
theorem node_is7 (op pl nn : Int) (nm ar ex : ByteArray) (l : Nat) : nodeB ⟨7, op, pl, nn, nm, ar, ex⟩ l = (justB ⟨7, op, pl, nn, nm, ar, ex⟩ ⟨0, 0, 0, 0, ⟨#[]⟩, ⟨#[]⟩, ⟨#[]⟩⟩ l 1) := by
 have hk : kidsN 7 = 1 := by decide
 have h1 : nameF 7 = false := by decide
 have h2 : argF 7 = false := by decide
 have h3 : exnF 7 = false := by decide
 unfold nodeB justB justP opOk nOk
 simp only [hk, h1, h2, h3, fitsB_none]
 rw [Bool.eq_iff_iff]
 simp only [Bool.and_eq_true, decide_eq_true_eq]
 generalize nameB nm = x1
 generalize nameB ar = x2
 generalize exnB ex = x3
 grind
theorem node_is8 (op pl nn : Int) (nm ar ex : ByteArray) (l : Nat) : nodeB ⟨8, op, pl, nn, nm, ar, ex⟩ l = (justB ⟨8, op, pl, nn, nm, ar, ex⟩ ⟨0, 0, 0, 0, ⟨#[]⟩, ⟨#[]⟩, ⟨#[]⟩⟩ l 2) := by
 have hk : kidsN 8 = 2 := by decide
 have h1 : nameF 8 = false := by decide
 have h2 : argF 8 = false := by decide
 have h3 : exnF 8 = false := by decide
 unfold nodeB justB justP opOk nOk
 simp only [hk, h1, h2, h3, fitsB_none]
 rw [Bool.eq_iff_iff]
 simp only [Bool.and_eq_true, decide_eq_true_eq]
 generalize nameB nm = x1
 generalize nameB ar = x2
 generalize exnB ex = x3
 grind
theorem node_is9 (op pl nn : Int) (nm ar ex : ByteArray) (l : Nat) : nodeB ⟨9, op, pl, nn, nm, ar, ex⟩ l = (justB ⟨9, op, pl, nn, nm, ar, ex⟩ ⟨0, op, 0, 0, ⟨#[]⟩, ⟨#[]⟩, ⟨#[]⟩⟩ l 2 && decide (1 ≤ op ∧ op ≤ 5)) := by
 have hk : kidsN 9 = 2 := by decide
 have h1 : nameF 9 = false := by decide
 have h2 : argF 9 = false := by decide
 have h3 : exnF 9 = false := by decide
 unfold nodeB justB justP opOk nOk
 simp only [hk, h1, h2, h3, fitsB_none]
 rw [Bool.eq_iff_iff]
 simp only [Bool.and_eq_true, decide_eq_true_eq]
 generalize nameB nm = x1
 generalize nameB ar = x2
 generalize exnB ex = x3
 grind
theorem node_is10 (op pl nn : Int) (nm ar ex : ByteArray) (l : Nat) : nodeB ⟨10, op, pl, nn, nm, ar, ex⟩ l = (justB ⟨10, op, pl, nn, nm, ar, ex⟩ ⟨0, 0, 0, 0, ⟨#[]⟩, ⟨#[]⟩, ⟨#[]⟩⟩ l 2) := by
 have hk : kidsN 10 = 2 := by decide
 have h1 : nameF 10 = false := by decide
 have h2 : argF 10 = false := by decide
 have h3 : exnF 10 = false := by decide
 unfold nodeB justB justP opOk nOk
 simp only [hk, h1, h2, h3, fitsB_none]
 rw [Bool.eq_iff_iff]
 simp only [Bool.and_eq_true, decide_eq_true_eq]
 generalize nameB nm = x1
 generalize nameB ar = x2
 generalize exnB ex = x3
 grind
theorem node_is11 (op pl nn : Int) (nm ar ex : ByteArray) (l : Nat) : nodeB ⟨11, op, pl, nn, nm, ar, ex⟩ l = (justB ⟨11, op, pl, nn, nm, ar, ex⟩ ⟨0, 0, 0, 0, ⟨#[]⟩, ar, ⟨#[]⟩⟩ l 1 && nameB ar) := by
 have hk : kidsN 11 = 1 := by decide
 have h1 : nameF 11 = false := by decide
 have h2 : argF 11 = true := by decide
 have h3 : exnF 11 = false := by decide
 unfold nodeB justB justP opOk nOk
 simp only [hk, h1, h2, h3, fitsB_none, fitsB_there]
 rw [Bool.eq_iff_iff]
 simp only [Bool.and_eq_true, decide_eq_true_eq]
 generalize nameB nm = x1
 generalize nameB ar = x2
 generalize exnB ex = x3
 grind
theorem node_is12 (op pl nn : Int) (nm ar ex : ByteArray) (l : Nat) : nodeB ⟨12, op, pl, nn, nm, ar, ex⟩ l = (justB ⟨12, op, pl, nn, nm, ar, ex⟩ ⟨0, 0, 0, 0, nm, ⟨#[]⟩, ⟨#[]⟩⟩ l 2 && nameB nm) := by
 have hk : kidsN 12 = 2 := by decide
 have h1 : nameF 12 = true := by decide
 have h2 : argF 12 = false := by decide
 have h3 : exnF 12 = false := by decide
 unfold nodeB justB justP opOk nOk
 simp only [hk, h1, h2, h3, fitsB_none, fitsB_there]
 rw [Bool.eq_iff_iff]
 simp only [Bool.and_eq_true, decide_eq_true_eq]
 generalize nameB nm = x1
 generalize nameB ar = x2
 generalize exnB ex = x3
 grind
theorem node_is13 (op pl nn : Int) (nm ar ex : ByteArray) (l : Nat) : nodeB ⟨13, op, pl, nn, nm, ar, ex⟩ l = (justB ⟨13, op, pl, nn, nm, ar, ex⟩ ⟨0, 0, 0, 0, nm, ar, ⟨#[]⟩⟩ l 2 && (nameB nm && nameB ar)) := by
 have hk : kidsN 13 = 2 := by decide
 have h1 : nameF 13 = true := by decide
 have h2 : argF 13 = true := by decide
 have h3 : exnF 13 = false := by decide
 unfold nodeB justB justP opOk nOk
 simp only [hk, h1, h2, h3, fitsB_none, fitsB_there]
 rw [Bool.eq_iff_iff]
 simp only [Bool.and_eq_true, decide_eq_true_eq]
 generalize nameB nm = x1
 generalize nameB ar = x2
 generalize exnB ex = x3
 grind
theorem node_is14 (op pl nn : Int) (nm ar ex : ByteArray) (l : Nat) : nodeB ⟨14, op, pl, nn, nm, ar, ex⟩ l = (justB ⟨14, op, pl, nn, nm, ar, ex⟩ ⟨0, 0, 0, 0, ⟨#[]⟩, ⟨#[]⟩, ⟨#[]⟩⟩ l 3) := by
 have hk : kidsN 14 = 3 := by decide
 have h1 : nameF 14 = false := by decide
 have h2 : argF 14 = false := by decide
 have h3 : exnF 14 = false := by decide
 unfold nodeB justB justP opOk nOk
 simp only [hk, h1, h2, h3, fitsB_none]
 rw [Bool.eq_iff_iff]
 simp only [Bool.and_eq_true, decide_eq_true_eq]
 generalize nameB nm = x1
 generalize nameB ar = x2
 generalize exnB ex = x3
 grind
theorem node_is15 (op pl nn : Int) (nm ar ex : ByteArray) (l : Nat) : nodeB ⟨15, op, pl, nn, nm, ar, ex⟩ l = (justB ⟨15, op, pl, nn, nm, ar, ex⟩ ⟨0, 0, 0, 0, ⟨#[]⟩, ⟨#[]⟩, ex⟩ l 1 && exnB ex) := by
 have hk : kidsN 15 = 1 := by decide
 have h1 : nameF 15 = false := by decide
 have h2 : argF 15 = false := by decide
 have h3 : exnF 15 = true := by decide
 unfold nodeB justB justP opOk nOk
 simp only [hk, h1, h2, h3, fitsB_none, fitsB_there]
 rw [Bool.eq_iff_iff]
 simp only [Bool.and_eq_true, decide_eq_true_eq]
 generalize nameB nm = x1
 generalize nameB ar = x2
 generalize exnB ex = x3
 grind
theorem node_is16 (op pl nn : Int) (nm ar ex : ByteArray) (l : Nat) : nodeB ⟨16, op, pl, nn, nm, ar, ex⟩ l = (justB ⟨16, op, pl, nn, nm, ar, ex⟩ ⟨0, 0, 0, 0, ⟨#[]⟩, ar, ex⟩ l 2 && (exnB ex && nameB ar)) := by
 have hk : kidsN 16 = 2 := by decide
 have h1 : nameF 16 = false := by decide
 have h2 : argF 16 = true := by decide
 have h3 : exnF 16 = true := by decide
 unfold nodeB justB justP opOk nOk
 simp only [hk, h1, h2, h3, fitsB_none, fitsB_there]
 rw [Bool.eq_iff_iff]
 simp only [Bool.and_eq_true, decide_eq_true_eq]
 generalize nameB nm = x1
 generalize nameB ar = x2
 generalize exnB ex = x3
 grind
theorem node_none {k : Int} (hk : k < 1 ∨ 16 < k) (op pl nn : Int) (nm ar ex : ByteArray) (l : Nat) : nodeB ⟨k, op, pl, nn, nm, ar, ex⟩ l = false :=
 nodeB_no (fun h => by have h1 := kidsN_none hk; have h2 := h.1; simp only at h2; omega)
theorem strs_two (w : World) (t : Nat) (s s' : ByteArray) : Words.StrsAt (w.alloc (.cells #[.string s, .string s'] t)) (some ⟨w.heap.size, 0, none⟩) [s, s'] := by
 refine .inr ⟨w.heap.size, 0, rfl, fun i hi => ?_⟩
 have : i = 0 ∨ i = 1 := by simp at hi; omega
 rcases this with rfl | rfl <;> simp [go_sem, Words.sel]
theorem name_two (s s' : ByteArray) (t : Nat) (w : World) (hs : s.size ≤ maxLen) (hs' : s'.size ≤ maxLen) (hl : Words.KwLaid w) :
  Calls Tryz.prog 117 #[.slice (some ⟨w.heap.size, 0, none⟩) 2 2] (w.alloc (.cells #[.string s, .string s'] t)) fun e w' => e = .returned (.bool (nameB s && nameB s')) ∧ Below w.heap.size w w' := by
 have hb0 : Below w.heap.size w (w.alloc (.cells #[.string s, .string s'] t)) := (Below.refl _ _).alloc (Nat.le_refl _) _
 refine (Words.name_walk _ 2 2 [s, s'] _ rfl (by unfold maxLen; omega) (strs_two w t s s') (fun x hx => by simp at hx; rcases hx with rfl | rfl <;> assumption) (hl.below hb0)).mono ?_
 rintro e w' ⟨rfl, hb⟩
 exact ⟨ret_bool (by simp), hb0.trans (hb.mono hb0.size)⟩
end Term
end Go.Proofs.YtkfkpjngiffamaaGreatDoor
namespace Go.Proofs.YtkfkpjngiffamaaGreatDoor
open Go.RowKit
set_option linter.unusedVariables false
namespace Term
open Words (nameB exnB)

set_option maxRecDepth 100000 in
set_option maxHeartbeats 6400000 in
theorem fits_1 (op pl nn : Int) (nm ar ex : ByteArray) (p : Option Addr) (l c : Nat) (w : World) (hop : 0 ≤ op ∧ op ≤ 255) (hl : l ≤ maxLen) (hs4 : nm.size ≤ maxLen) (hs5 : ar.size ≤ maxLen) (hs6 : ex.size ≤ maxLen) (hkw : Words.KwLaid w) :
  Calls Tryz.prog 99 #[.agg #[.int .u8 1, .int .u8 op, .int .i64 pl, .int .i64 nn, .string nm, .string ar, .string ex, .slice p l c]] w fun e w' => e = .returned (.bool (nodeB ⟨1, op, pl, nn, nm, ar, ex⟩ l)) ∧ Below w.heap.size w w' := by
 have hn := node_is1 op pl nn nm ar ex l
 have hj := fun W => just_walk ⟨1, op, pl, nn, nm, ar, ex⟩ ⟨0, 0, 0, nn, ⟨#[]⟩, ⟨#[]⟩, ⟨#[]⟩⟩ p l c 0 W hl
 have hbox : ∀ O : Obj, Below w.heap.size w (w.alloc O) := fun O => (Below.refl _ _).alloc (Nat.le_refl _) O
 generalize hJ : justB ⟨1, op, pl, nn, nm, ar, ex⟩ ⟨0, 0, 0, nn, ⟨#[]⟩, ⟨#[]⟩, ⟨#[]⟩⟩ l 0 = J at *
 have HNO := Lib.hid hn; have HBOX := Lib.hid hbox; have JW := Lib.hid hj; have HKW := Lib.hid hkw; have HS4 := Lib.hid hs4; have HS5 := Lib.hid hs5; have HS6 := Lib.hid hs6; have HJ := Lib.hid hJ
 clear hn hbox hj hkw hs4 hs5 hs6 hl hJ
 go_enter Tryz.func99, Tryz.ntmps99
 go_wp2_with (fail)
 refine (JW.out _).mono ?_
 rintro e w1 ⟨rfl, hb1⟩
 have b3 := boxAt hb1 3 rfl
 have HB1 := Lib.hid ((HBOX.out _).trans (hb1.mono (HBOX.out _).size)); clear hb1
 cases J
 ·go_wp2
  go_ret
  exact ⟨ret_bool (by rw [HNO.out]; rfl), HB1.out⟩
 ·by_cases h0 : 0 ≤ nn
  ·by_cases h1 : nn ≤ 2147483647
   ·go_wp2
    go_ret
    exact ⟨ret_bool (by rw [HNO.out, decide_eq_true (And.intro h0 h1)]; rfl), HB1.out⟩
   ·have h2 : decide (nn ≤ 2147483647) = false := decide_eq_false h1
    have hf : decide (0 ≤ nn ∧ nn ≤ 2147483647) = false := decide_eq_false (fun h => h1 h.2)
    have HF := Lib.hid hf
    clear hf
    go_wp2
    go_ret
    exact ⟨ret_bool (by rw [HNO.out, HF.out]; rfl), HB1.out⟩
  ·have h2 : decide (0 ≤ nn) = false := decide_eq_false h0
   have hf : decide (0 ≤ nn ∧ nn ≤ 2147483647) = false := decide_eq_false (fun h => h0 h.1)
   have HF := Lib.hid hf
   clear hf
   go_wp2
   go_ret
   exact ⟨ret_bool (by rw [HNO.out, HF.out]; rfl), HB1.out⟩

set_option maxRecDepth 100000 in
set_option maxHeartbeats 6400000 in
theorem fits_2 (op pl nn : Int) (nm ar ex : ByteArray) (p : Option Addr) (l c : Nat) (w : World) (hop : 0 ≤ op ∧ op ≤ 255) (hl : l ≤ maxLen) (hs4 : nm.size ≤ maxLen) (hs5 : ar.size ≤ maxLen) (hs6 : ex.size ≤ maxLen) (hkw : Words.KwLaid w) :
  Calls Tryz.prog 99 #[.agg #[.int .u8 2, .int .u8 op, .int .i64 pl, .int .i64 nn, .string nm, .string ar, .string ex, .slice p l c]] w fun e w' => e = .returned (.bool (nodeB ⟨2, op, pl, nn, nm, ar, ex⟩ l)) ∧ Below w.heap.size w w' := by
 have hn := node_is2 op pl nn nm ar ex l
 have hj := fun W => just_walk ⟨2, op, pl, nn, nm, ar, ex⟩ ⟨0, 0, 0, 0, nm, ⟨#[]⟩, ⟨#[]⟩⟩ p l c 0 W hl
 have hbox : ∀ O : Obj, Below w.heap.size w (w.alloc O) := fun O => (Below.refl _ _).alloc (Nat.le_refl _) O
 generalize hJ : justB ⟨2, op, pl, nn, nm, ar, ex⟩ ⟨0, 0, 0, 0, nm, ⟨#[]⟩, ⟨#[]⟩⟩ l 0 = J at *
 have HNO := Lib.hid hn; have HBOX := Lib.hid hbox; have JW := Lib.hid hj; have HKW := Lib.hid hkw; have HS4 := Lib.hid hs4; have HS5 := Lib.hid hs5; have HS6 := Lib.hid hs6; have HJ := Lib.hid hJ
 clear hn hbox hj hkw hs4 hs5 hs6 hl hJ
 go_enter Tryz.func99, Tryz.ntmps99
 go_wp2_with (fail)
 refine (JW.out _).mono ?_
 rintro e w1 ⟨rfl, hb1⟩
 have b4 := boxAt hb1 4 rfl
 have HB1 := Lib.hid ((HBOX.out _).trans (hb1.mono (HBOX.out _).size)); clear hb1
 cases J
 ·go_wp2
  go_ret
  exact ⟨ret_bool (by rw [HNO.out]; rfl), HB1.out⟩
 ·go_wp2_with (fail)
  refine (Words.name_at nm _ _ _ rfl HS4.out (HKW.out.below HB1.out)).mono ?_
  rintro e w2 ⟨rfl, hb2⟩
  have HB2 := Lib.hid (HB1.out.trans (hb2.mono HB1.out.size)); clear hb2
  cases hx : nameB nm
  all_goals
   have HX := Lib.hid hx
   clear hx
   go_wp2
   go_ret
   exact ⟨ret_bool (by rw [HNO.out, HX.out]; rfl), HB2.out⟩

set_option maxRecDepth 100000 in
set_option maxHeartbeats 6400000 in
theorem fits_3 (op pl nn : Int) (nm ar ex : ByteArray) (p : Option Addr) (l c : Nat) (w : World) (hop : 0 ≤ op ∧ op ≤ 255) (hl : l ≤ maxLen) (hs4 : nm.size ≤ maxLen) (hs5 : ar.size ≤ maxLen) (hs6 : ex.size ≤ maxLen) (hkw : Words.KwLaid w) :
  Calls Tryz.prog 99 #[.agg #[.int .u8 3, .int .u8 op, .int .i64 pl, .int .i64 nn, .string nm, .string ar, .string ex, .slice p l c]] w fun e w' => e = .returned (.bool (nodeB ⟨3, op, pl, nn, nm, ar, ex⟩ l)) ∧ Below w.heap.size w w' := by
 have hn := node_is3 op pl nn nm ar ex l
 have hj := fun W => just_walk ⟨3, op, pl, nn, nm, ar, ex⟩ ⟨0, 0, 0, 0, ⟨#[]⟩, ⟨#[]⟩, ⟨#[]⟩⟩ p l c 2 W hl
 have hbox : ∀ O : Obj, Below w.heap.size w (w.alloc O) := fun O => (Below.refl _ _).alloc (Nat.le_refl _) O
 generalize hJ : justB ⟨3, op, pl, nn, nm, ar, ex⟩ ⟨0, 0, 0, 0, ⟨#[]⟩, ⟨#[]⟩, ⟨#[]⟩⟩ l 2 = J at *
 have HNO := Lib.hid hn; have HBOX := Lib.hid hbox; have JW := Lib.hid hj; have HKW := Lib.hid hkw; have HS4 := Lib.hid hs4; have HS5 := Lib.hid hs5; have HS6 := Lib.hid hs6; have HJ := Lib.hid hJ
 clear hn hbox hj hkw hs4 hs5 hs6 hl hJ
 go_enter Tryz.func99, Tryz.ntmps99
 go_wp2_with (fail)
 refine (JW.out _).mono ?_
 rintro e w1 ⟨rfl, hb1⟩
 have HB1 := Lib.hid ((HBOX.out _).trans (hb1.mono (HBOX.out _).size)); clear hb1
 cases J
 ·go_wp2
  go_ret
  exact ⟨ret_bool (by rw [HNO.out]), HB1.out⟩
 ·go_wp2
  go_ret
  exact ⟨ret_bool (by rw [HNO.out]), HB1.out⟩

set_option maxRecDepth 100000 in
set_option maxHeartbeats 6400000 in
theorem fits_4 (op pl nn : Int) (nm ar ex : ByteArray) (p : Option Addr) (l c : Nat) (w : World) (hop : 0 ≤ op ∧ op ≤ 255) (hl : l ≤ maxLen) (hs4 : nm.size ≤ maxLen) (hs5 : ar.size ≤ maxLen) (hs6 : ex.size ≤ maxLen) (hkw : Words.KwLaid w) :
  Calls Tryz.prog 99 #[.agg #[.int .u8 4, .int .u8 op, .int .i64 pl, .int .i64 nn, .string nm, .string ar, .string ex, .slice p l c]] w fun e w' => e = .returned (.bool (nodeB ⟨4, op, pl, nn, nm, ar, ex⟩ l)) ∧ Below w.heap.size w w' := by
 have hn := node_is4 op pl nn nm ar ex l
 have hj := fun W => just_walk ⟨4, op, pl, nn, nm, ar, ex⟩ ⟨0, 0, 0, 0, ⟨#[]⟩, ⟨#[]⟩, ⟨#[]⟩⟩ p l c 1 W hl
 have hbox : ∀ O : Obj, Below w.heap.size w (w.alloc O) := fun O => (Below.refl _ _).alloc (Nat.le_refl _) O
 generalize hJ : justB ⟨4, op, pl, nn, nm, ar, ex⟩ ⟨0, 0, 0, 0, ⟨#[]⟩, ⟨#[]⟩, ⟨#[]⟩⟩ l 1 = J at *
 have HNO := Lib.hid hn; have HBOX := Lib.hid hbox; have JW := Lib.hid hj; have HKW := Lib.hid hkw; have HS4 := Lib.hid hs4; have HS5 := Lib.hid hs5; have HS6 := Lib.hid hs6; have HJ := Lib.hid hJ
 clear hn hbox hj hkw hs4 hs5 hs6 hl hJ
 go_enter Tryz.func99, Tryz.ntmps99
 go_wp2_with (fail)
 refine (JW.out _).mono ?_
 rintro e w1 ⟨rfl, hb1⟩
 have HB1 := Lib.hid ((HBOX.out _).trans (hb1.mono (HBOX.out _).size)); clear hb1
 cases J
 ·go_wp2
  go_ret
  exact ⟨ret_bool (by rw [HNO.out]), HB1.out⟩
 ·go_wp2
  go_ret
  exact ⟨ret_bool (by rw [HNO.out]), HB1.out⟩

set_option maxRecDepth 100000 in
set_option maxHeartbeats 6400000 in
theorem fits_5 (op pl nn : Int) (nm ar ex : ByteArray) (p : Option Addr) (l c : Nat) (w : World) (hop : 0 ≤ op ∧ op ≤ 255) (hl : l ≤ maxLen) (hs4 : nm.size ≤ maxLen) (hs5 : ar.size ≤ maxLen) (hs6 : ex.size ≤ maxLen) (hkw : Words.KwLaid w) :
  Calls Tryz.prog 99 #[.agg #[.int .u8 5, .int .u8 op, .int .i64 pl, .int .i64 nn, .string nm, .string ar, .string ex, .slice p l c]] w fun e w' => e = .returned (.bool (nodeB ⟨5, op, pl, nn, nm, ar, ex⟩ l)) ∧ Below w.heap.size w w' := by
 have hn := node_is5 op pl nn nm ar ex l
 have hj := fun W => just_walk ⟨5, op, pl, nn, nm, ar, ex⟩ ⟨0, 0, 0, 0, ⟨#[]⟩, ⟨#[]⟩, ⟨#[]⟩⟩ p l c 1 W hl
 have hbox : ∀ O : Obj, Below w.heap.size w (w.alloc O) := fun O => (Below.refl _ _).alloc (Nat.le_refl _) O
 generalize hJ : justB ⟨5, op, pl, nn, nm, ar, ex⟩ ⟨0, 0, 0, 0, ⟨#[]⟩, ⟨#[]⟩, ⟨#[]⟩⟩ l 1 = J at *
 have HNO := Lib.hid hn; have HBOX := Lib.hid hbox; have JW := Lib.hid hj; have HKW := Lib.hid hkw; have HS4 := Lib.hid hs4; have HS5 := Lib.hid hs5; have HS6 := Lib.hid hs6; have HJ := Lib.hid hJ
 clear hn hbox hj hkw hs4 hs5 hs6 hl hJ
 go_enter Tryz.func99, Tryz.ntmps99
 go_wp2_with (fail)
 refine (JW.out _).mono ?_
 rintro e w1 ⟨rfl, hb1⟩
 have HB1 := Lib.hid ((HBOX.out _).trans (hb1.mono (HBOX.out _).size)); clear hb1
 cases J
 ·go_wp2
  go_ret
  exact ⟨ret_bool (by rw [HNO.out]), HB1.out⟩
 ·go_wp2
  go_ret
  exact ⟨ret_bool (by rw [HNO.out]), HB1.out⟩

set_option maxRecDepth 100000 in
set_option maxHeartbeats 6400000 in
theorem fits_6 (op pl nn : Int) (nm ar ex : ByteArray) (p : Option Addr) (l c : Nat) (w : World) (hop : 0 ≤ op ∧ op ≤ 255) (hl : l ≤ maxLen) (hs4 : nm.size ≤ maxLen) (hs5 : ar.size ≤ maxLen) (hs6 : ex.size ≤ maxLen) (hkw : Words.KwLaid w) :
  Calls Tryz.prog 99 #[.agg #[.int .u8 6, .int .u8 op, .int .i64 pl, .int .i64 nn, .string nm, .string ar, .string ex, .slice p l c]] w fun e w' => e = .returned (.bool (nodeB ⟨6, op, pl, nn, nm, ar, ex⟩ l)) ∧ Below w.heap.size w w' := by
 have hn := node_is6 op pl nn nm ar ex l
 have hj := fun W => just_walk ⟨6, op, pl, nn, nm, ar, ex⟩ ⟨0, 0, 0, 0, ⟨#[]⟩, ⟨#[]⟩, ⟨#[]⟩⟩ p l c 1 W hl
 have hbox : ∀ O : Obj, Below w.heap.size w (w.alloc O) := fun O => (Below.refl _ _).alloc (Nat.le_refl _) O
 generalize hJ : justB ⟨6, op, pl, nn, nm, ar, ex⟩ ⟨0, 0, 0, 0, ⟨#[]⟩, ⟨#[]⟩, ⟨#[]⟩⟩ l 1 = J at *
 have HNO := Lib.hid hn; have HBOX := Lib.hid hbox; have JW := Lib.hid hj; have HKW := Lib.hid hkw; have HS4 := Lib.hid hs4; have HS5 := Lib.hid hs5; have HS6 := Lib.hid hs6; have HJ := Lib.hid hJ
 clear hn hbox hj hkw hs4 hs5 hs6 hl hJ
 go_enter Tryz.func99, Tryz.ntmps99
 go_wp2_with (fail)
 refine (JW.out _).mono ?_
 rintro e w1 ⟨rfl, hb1⟩
 have HB1 := Lib.hid ((HBOX.out _).trans (hb1.mono (HBOX.out _).size)); clear hb1
 cases J
 ·go_wp2
  go_ret
  exact ⟨ret_bool (by rw [HNO.out]), HB1.out⟩
 ·go_wp2
  go_ret
  exact ⟨ret_bool (by rw [HNO.out]), HB1.out⟩

end Term
end Go.Proofs.YtkfkpjngiffamaaGreatDoor
namespace Go.Proofs.YtkfkpjngiffamaaGreatDoor
open Go.RowKit
set_option linter.unusedVariables false
namespace Term
open Words (nameB exnB)

set_option maxRecDepth 100000 in
set_option maxHeartbeats 6400000 in
theorem fits_7 (op pl nn : Int) (nm ar ex : ByteArray) (p : Option Addr) (l c : Nat) (w : World) (hop : 0 ≤ op ∧ op ≤ 255) (hl : l ≤ maxLen) (hs4 : nm.size ≤ maxLen) (hs5 : ar.size ≤ maxLen) (hs6 : ex.size ≤ maxLen) (hkw : Words.KwLaid w) :
  Calls Tryz.prog 99 #[.agg #[.int .u8 7, .int .u8 op, .int .i64 pl, .int .i64 nn, .string nm, .string ar, .string ex, .slice p l c]] w fun e w' => e = .returned (.bool (nodeB ⟨7, op, pl, nn, nm, ar, ex⟩ l)) ∧ Below w.heap.size w w' := by
 have hn := node_is7 op pl nn nm ar ex l
 have hj := fun W => just_walk ⟨7, op, pl, nn, nm, ar, ex⟩ ⟨0, 0, 0, 0, ⟨#[]⟩, ⟨#[]⟩, ⟨#[]⟩⟩ p l c 1 W hl
 have hbox : ∀ O : Obj, Below w.heap.size w (w.alloc O) := fun O => (Below.refl _ _).alloc (Nat.le_refl _) O
 generalize hJ : justB ⟨7, op, pl, nn, nm, ar, ex⟩ ⟨0, 0, 0, 0, ⟨#[]⟩, ⟨#[]⟩, ⟨#[]⟩⟩ l 1 = J at *
 have HNO := Lib.hid hn; have HBOX := Lib.hid hbox; have JW := Lib.hid hj; have HKW := Lib.hid hkw; have HS4 := Lib.hid hs4; have HS5 := Lib.hid hs5; have HS6 := Lib.hid hs6; have HJ := Lib.hid hJ
 clear hn hbox hj hkw hs4 hs5 hs6 hl hJ
 go_enter Tryz.func99, Tryz.ntmps99
 go_wp2_with (fail)
 refine (JW.out _).mono ?_
 rintro e w1 ⟨rfl, hb1⟩
 have HB1 := Lib.hid ((HBOX.out _).trans (hb1.mono (HBOX.out _).size)); clear hb1
 cases J
 ·go_wp2
  go_ret
  exact ⟨ret_bool (by rw [HNO.out]), HB1.out⟩
 ·go_wp2
  go_ret
  exact ⟨ret_bool (by rw [HNO.out]), HB1.out⟩

set_option maxRecDepth 100000 in
set_option maxHeartbeats 6400000 in
theorem fits_8 (op pl nn : Int) (nm ar ex : ByteArray) (p : Option Addr) (l c : Nat) (w : World) (hop : 0 ≤ op ∧ op ≤ 255) (hl : l ≤ maxLen) (hs4 : nm.size ≤ maxLen) (hs5 : ar.size ≤ maxLen) (hs6 : ex.size ≤ maxLen) (hkw : Words.KwLaid w) :
  Calls Tryz.prog 99 #[.agg #[.int .u8 8, .int .u8 op, .int .i64 pl, .int .i64 nn, .string nm, .string ar, .string ex, .slice p l c]] w fun e w' => e = .returned (.bool (nodeB ⟨8, op, pl, nn, nm, ar, ex⟩ l)) ∧ Below w.heap.size w w' := by
 have hn := node_is8 op pl nn nm ar ex l
 have hj := fun W => just_walk ⟨8, op, pl, nn, nm, ar, ex⟩ ⟨0, 0, 0, 0, ⟨#[]⟩, ⟨#[]⟩, ⟨#[]⟩⟩ p l c 2 W hl
 have hbox : ∀ O : Obj, Below w.heap.size w (w.alloc O) := fun O => (Below.refl _ _).alloc (Nat.le_refl _) O
 generalize hJ : justB ⟨8, op, pl, nn, nm, ar, ex⟩ ⟨0, 0, 0, 0, ⟨#[]⟩, ⟨#[]⟩, ⟨#[]⟩⟩ l 2 = J at *
 have HNO := Lib.hid hn; have HBOX := Lib.hid hbox; have JW := Lib.hid hj; have HKW := Lib.hid hkw; have HS4 := Lib.hid hs4; have HS5 := Lib.hid hs5; have HS6 := Lib.hid hs6; have HJ := Lib.hid hJ
 clear hn hbox hj hkw hs4 hs5 hs6 hl hJ
 go_enter Tryz.func99, Tryz.ntmps99
 go_wp2_with (fail)
 refine (JW.out _).mono ?_
 rintro e w1 ⟨rfl, hb1⟩
 have HB1 := Lib.hid ((HBOX.out _).trans (hb1.mono (HBOX.out _).size)); clear hb1
 cases J
 ·go_wp2
  go_ret
  exact ⟨ret_bool (by rw [HNO.out]), HB1.out⟩
 ·go_wp2
  go_ret
  exact ⟨ret_bool (by rw [HNO.out]), HB1.out⟩

set_option maxRecDepth 100000 in
set_option maxHeartbeats 6400000 in
theorem fits_9 (op pl nn : Int) (nm ar ex : ByteArray) (p : Option Addr) (l c : Nat) (w : World) (hop : 0 ≤ op ∧ op ≤ 255) (hl : l ≤ maxLen) (hs4 : nm.size ≤ maxLen) (hs5 : ar.size ≤ maxLen) (hs6 : ex.size ≤ maxLen) (hkw : Words.KwLaid w) :
  Calls Tryz.prog 99 #[.agg #[.int .u8 9, .int .u8 op, .int .i64 pl, .int .i64 nn, .string nm, .string ar, .string ex, .slice p l c]] w fun e w' => e = .returned (.bool (nodeB ⟨9, op, pl, nn, nm, ar, ex⟩ l)) ∧ Below w.heap.size w w' := by
 have hn := node_is9 op pl nn nm ar ex l
 have hj := fun W => just_walk ⟨9, op, pl, nn, nm, ar, ex⟩ ⟨0, op, 0, 0, ⟨#[]⟩, ⟨#[]⟩, ⟨#[]⟩⟩ p l c 2 W hl
 have hbox : ∀ O : Obj, Below w.heap.size w (w.alloc O) := fun O => (Below.refl _ _).alloc (Nat.le_refl _) O
 generalize hJ : justB ⟨9, op, pl, nn, nm, ar, ex⟩ ⟨0, op, 0, 0, ⟨#[]⟩, ⟨#[]⟩, ⟨#[]⟩⟩ l 2 = J at *
 have HNO := Lib.hid hn; have HBOX := Lib.hid hbox; have JW := Lib.hid hj; have HKW := Lib.hid hkw; have HS4 := Lib.hid hs4; have HS5 := Lib.hid hs5; have HS6 := Lib.hid hs6; have HJ := Lib.hid hJ
 clear hn hbox hj hkw hs4 hs5 hs6 hl hJ
 go_enter Tryz.func99, Tryz.ntmps99
 go_wp2_with (fail)
 refine (JW.out _).mono ?_
 rintro e w1 ⟨rfl, hb1⟩
 have b1 := boxAt hb1 1 rfl
 have HB1 := Lib.hid ((HBOX.out _).trans (hb1.mono (HBOX.out _).size)); clear hb1
 cases J
 ·go_wp2
  go_ret
  exact ⟨ret_bool (by rw [HNO.out]; rfl), HB1.out⟩
 ·by_cases h0 : 1 ≤ op
  ·by_cases h1 : op ≤ 5
   ·go_wp2
    go_ret
    exact ⟨ret_bool (by rw [HNO.out, decide_eq_true (And.intro h0 h1)]; rfl), HB1.out⟩
   ·have h2 : decide (op ≤ 5) = false := decide_eq_false h1
    have hf : decide (1 ≤ op ∧ op ≤ 5) = false := decide_eq_false (fun h => h1 h.2)
    have HF := Lib.hid hf
    clear hf
    go_wp2
    go_ret
    exact ⟨ret_bool (by rw [HNO.out, HF.out]; rfl), HB1.out⟩
  ·have h2 : decide (1 ≤ op) = false := decide_eq_false h0
   have hf : decide (1 ≤ op ∧ op ≤ 5) = false := decide_eq_false (fun h => h0 h.1)
   have HF := Lib.hid hf
   clear hf
   go_wp2
   go_ret
   exact ⟨ret_bool (by rw [HNO.out, HF.out]; rfl), HB1.out⟩

set_option maxRecDepth 100000 in
set_option maxHeartbeats 6400000 in
theorem fits_10 (op pl nn : Int) (nm ar ex : ByteArray) (p : Option Addr) (l c : Nat) (w : World) (hop : 0 ≤ op ∧ op ≤ 255) (hl : l ≤ maxLen) (hs4 : nm.size ≤ maxLen) (hs5 : ar.size ≤ maxLen) (hs6 : ex.size ≤ maxLen) (hkw : Words.KwLaid w) :
  Calls Tryz.prog 99 #[.agg #[.int .u8 10, .int .u8 op, .int .i64 pl, .int .i64 nn, .string nm, .string ar, .string ex, .slice p l c]] w fun e w' => e = .returned (.bool (nodeB ⟨10, op, pl, nn, nm, ar, ex⟩ l)) ∧ Below w.heap.size w w' := by
 have hn := node_is10 op pl nn nm ar ex l
 have hj := fun W => just_walk ⟨10, op, pl, nn, nm, ar, ex⟩ ⟨0, 0, 0, 0, ⟨#[]⟩, ⟨#[]⟩, ⟨#[]⟩⟩ p l c 2 W hl
 have hbox : ∀ O : Obj, Below w.heap.size w (w.alloc O) := fun O => (Below.refl _ _).alloc (Nat.le_refl _) O
 generalize hJ : justB ⟨10, op, pl, nn, nm, ar, ex⟩ ⟨0, 0, 0, 0, ⟨#[]⟩, ⟨#[]⟩, ⟨#[]⟩⟩ l 2 = J at *
 have HNO := Lib.hid hn; have HBOX := Lib.hid hbox; have JW := Lib.hid hj; have HKW := Lib.hid hkw; have HS4 := Lib.hid hs4; have HS5 := Lib.hid hs5; have HS6 := Lib.hid hs6; have HJ := Lib.hid hJ
 clear hn hbox hj hkw hs4 hs5 hs6 hl hJ
 go_enter Tryz.func99, Tryz.ntmps99
 go_wp2_with (fail)
 refine (JW.out _).mono ?_
 rintro e w1 ⟨rfl, hb1⟩
 have HB1 := Lib.hid ((HBOX.out _).trans (hb1.mono (HBOX.out _).size)); clear hb1
 cases J
 ·go_wp2
  go_ret
  exact ⟨ret_bool (by rw [HNO.out]), HB1.out⟩
 ·go_wp2
  go_ret
  exact ⟨ret_bool (by rw [HNO.out]), HB1.out⟩

set_option maxRecDepth 100000 in
set_option maxHeartbeats 6400000 in
theorem fits_11 (op pl nn : Int) (nm ar ex : ByteArray) (p : Option Addr) (l c : Nat) (w : World) (hop : 0 ≤ op ∧ op ≤ 255) (hl : l ≤ maxLen) (hs4 : nm.size ≤ maxLen) (hs5 : ar.size ≤ maxLen) (hs6 : ex.size ≤ maxLen) (hkw : Words.KwLaid w) :
  Calls Tryz.prog 99 #[.agg #[.int .u8 11, .int .u8 op, .int .i64 pl, .int .i64 nn, .string nm, .string ar, .string ex, .slice p l c]] w fun e w' => e = .returned (.bool (nodeB ⟨11, op, pl, nn, nm, ar, ex⟩ l)) ∧ Below w.heap.size w w' := by
 have hn := node_is11 op pl nn nm ar ex l
 have hj := fun W => just_walk ⟨11, op, pl, nn, nm, ar, ex⟩ ⟨0, 0, 0, 0, ⟨#[]⟩, ar, ⟨#[]⟩⟩ p l c 1 W hl
 have hbox : ∀ O : Obj, Below w.heap.size w (w.alloc O) := fun O => (Below.refl _ _).alloc (Nat.le_refl _) O
 generalize hJ : justB ⟨11, op, pl, nn, nm, ar, ex⟩ ⟨0, 0, 0, 0, ⟨#[]⟩, ar, ⟨#[]⟩⟩ l 1 = J at *
 have HNO := Lib.hid hn; have HBOX := Lib.hid hbox; have JW := Lib.hid hj; have HKW := Lib.hid hkw; have HS4 := Lib.hid hs4; have HS5 := Lib.hid hs5; have HS6 := Lib.hid hs6; have HJ := Lib.hid hJ
 clear hn hbox hj hkw hs4 hs5 hs6 hl hJ
 go_enter Tryz.func99, Tryz.ntmps99
 go_wp2_with (fail)
 refine (JW.out _).mono ?_
 rintro e w1 ⟨rfl, hb1⟩
 have b5 := boxAt hb1 5 rfl
 have HB1 := Lib.hid ((HBOX.out _).trans (hb1.mono (HBOX.out _).size)); clear hb1
 cases J
 ·go_wp2
  go_ret
  exact ⟨ret_bool (by rw [HNO.out]; rfl), HB1.out⟩
 ·go_wp2_with (fail)
  refine (Words.name_at ar _ _ _ rfl HS5.out (HKW.out.below HB1.out)).mono ?_
  rintro e w2 ⟨rfl, hb2⟩
  have HB2 := Lib.hid (HB1.out.trans (hb2.mono HB1.out.size)); clear hb2
  cases hx : nameB ar
  all_goals
   have HX := Lib.hid hx
   clear hx
   go_wp2
   go_ret
   exact ⟨ret_bool (by rw [HNO.out, HX.out]; rfl), HB2.out⟩

end Term
end Go.Proofs.YtkfkpjngiffamaaGreatDoor
namespace Go.Proofs.YtkfkpjngiffamaaGreatDoor
open Go.RowKit
set_option linter.unusedVariables false
namespace Term
open Words (nameB exnB)

set_option maxRecDepth 100000 in
set_option maxHeartbeats 6400000 in
theorem fits_12 (op pl nn : Int) (nm ar ex : ByteArray) (p : Option Addr) (l c : Nat) (w : World) (hop : 0 ≤ op ∧ op ≤ 255) (hl : l ≤ maxLen) (hs4 : nm.size ≤ maxLen) (hs5 : ar.size ≤ maxLen) (hs6 : ex.size ≤ maxLen) (hkw : Words.KwLaid w) :
  Calls Tryz.prog 99 #[.agg #[.int .u8 12, .int .u8 op, .int .i64 pl, .int .i64 nn, .string nm, .string ar, .string ex, .slice p l c]] w fun e w' => e = .returned (.bool (nodeB ⟨12, op, pl, nn, nm, ar, ex⟩ l)) ∧ Below w.heap.size w w' := by
 have hn := node_is12 op pl nn nm ar ex l
 have hj := fun W => just_walk ⟨12, op, pl, nn, nm, ar, ex⟩ ⟨0, 0, 0, 0, nm, ⟨#[]⟩, ⟨#[]⟩⟩ p l c 2 W hl
 have hbox : ∀ O : Obj, Below w.heap.size w (w.alloc O) := fun O => (Below.refl _ _).alloc (Nat.le_refl _) O
 generalize hJ : justB ⟨12, op, pl, nn, nm, ar, ex⟩ ⟨0, 0, 0, 0, nm, ⟨#[]⟩, ⟨#[]⟩⟩ l 2 = J at *
 have HNO := Lib.hid hn; have HBOX := Lib.hid hbox; have JW := Lib.hid hj; have HKW := Lib.hid hkw; have HS4 := Lib.hid hs4; have HS5 := Lib.hid hs5; have HS6 := Lib.hid hs6; have HJ := Lib.hid hJ
 clear hn hbox hj hkw hs4 hs5 hs6 hl hJ
 go_enter Tryz.func99, Tryz.ntmps99
 go_wp2_with (fail)
 refine (JW.out _).mono ?_
 rintro e w1 ⟨rfl, hb1⟩
 have b4 := boxAt hb1 4 rfl
 have HB1 := Lib.hid ((HBOX.out _).trans (hb1.mono (HBOX.out _).size)); clear hb1
 cases J
 ·go_wp2
  go_ret
  exact ⟨ret_bool (by rw [HNO.out]; rfl), HB1.out⟩
 ·go_wp2_with (fail)
  refine (Words.name_at nm _ _ _ rfl HS4.out (HKW.out.below HB1.out)).mono ?_
  rintro e w2 ⟨rfl, hb2⟩
  have HB2 := Lib.hid (HB1.out.trans (hb2.mono HB1.out.size)); clear hb2
  cases hx : nameB nm
  all_goals
   have HX := Lib.hid hx
   clear hx
   go_wp2
   go_ret
   exact ⟨ret_bool (by rw [HNO.out, HX.out]; rfl), HB2.out⟩

set_option maxRecDepth 100000 in
set_option maxHeartbeats 6400000 in
theorem fits_13 (op pl nn : Int) (nm ar ex : ByteArray) (p : Option Addr) (l c : Nat) (w : World) (hop : 0 ≤ op ∧ op ≤ 255) (hl : l ≤ maxLen) (hs4 : nm.size ≤ maxLen) (hs5 : ar.size ≤ maxLen) (hs6 : ex.size ≤ maxLen) (hkw : Words.KwLaid w) :
  Calls Tryz.prog 99 #[.agg #[.int .u8 13, .int .u8 op, .int .i64 pl, .int .i64 nn, .string nm, .string ar, .string ex, .slice p l c]] w fun e w' => e = .returned (.bool (nodeB ⟨13, op, pl, nn, nm, ar, ex⟩ l)) ∧ Below w.heap.size w w' := by
 have hn := node_is13 op pl nn nm ar ex l
 have hj := fun W => just_walk ⟨13, op, pl, nn, nm, ar, ex⟩ ⟨0, 0, 0, 0, nm, ar, ⟨#[]⟩⟩ p l c 2 W hl
 have hbox : ∀ O : Obj, Below w.heap.size w (w.alloc O) := fun O => (Below.refl _ _).alloc (Nat.le_refl _) O
 generalize hJ : justB ⟨13, op, pl, nn, nm, ar, ex⟩ ⟨0, 0, 0, 0, nm, ar, ⟨#[]⟩⟩ l 2 = J at *
 have HNO := Lib.hid hn; have HBOX := Lib.hid hbox; have JW := Lib.hid hj; have HKW := Lib.hid hkw; have HS4 := Lib.hid hs4; have HS5 := Lib.hid hs5; have HS6 := Lib.hid hs6; have HJ := Lib.hid hJ
 clear hn hbox hj hkw hs4 hs5 hs6 hl hJ
 go_enter Tryz.func99, Tryz.ntmps99
 go_wp2_with (fail)
 refine (JW.out _).mono ?_
 rintro e w1 ⟨rfl, hb1⟩
 have b4 := boxAt hb1 4 rfl
 have b5 := boxAt hb1 5 rfl
 have HB1 := Lib.hid ((HBOX.out _).trans (hb1.mono (HBOX.out _).size)); clear hb1
 cases J
 ·go_wp2
  go_ret
  exact ⟨ret_bool (by rw [HNO.out]; rfl), HB1.out⟩
 ·go_wp2_with (fail)
  refine (name_two nm ar _ _ HS4.out HS5.out (HKW.out.below HB1.out)).mono ?_
  rintro e w2 ⟨rfl, hb2⟩
  have HB2 := Lib.hid (HB1.out.trans (hb2.mono HB1.out.size)); clear hb2
  cases hx : (nameB nm && nameB ar)
  all_goals
   have HX := Lib.hid hx
   clear hx
   go_wp2
   go_ret
   exact ⟨ret_bool (by rw [HNO.out, HX.out]; rfl), HB2.out⟩

set_option maxRecDepth 100000 in
set_option maxHeartbeats 6400000 in
theorem fits_14 (op pl nn : Int) (nm ar ex : ByteArray) (p : Option Addr) (l c : Nat) (w : World) (hop : 0 ≤ op ∧ op ≤ 255) (hl : l ≤ maxLen) (hs4 : nm.size ≤ maxLen) (hs5 : ar.size ≤ maxLen) (hs6 : ex.size ≤ maxLen) (hkw : Words.KwLaid w) :
  Calls Tryz.prog 99 #[.agg #[.int .u8 14, .int .u8 op, .int .i64 pl, .int .i64 nn, .string nm, .string ar, .string ex, .slice p l c]] w fun e w' => e = .returned (.bool (nodeB ⟨14, op, pl, nn, nm, ar, ex⟩ l)) ∧ Below w.heap.size w w' := by
 have hn := node_is14 op pl nn nm ar ex l
 have hj := fun W => just_walk ⟨14, op, pl, nn, nm, ar, ex⟩ ⟨0, 0, 0, 0, ⟨#[]⟩, ⟨#[]⟩, ⟨#[]⟩⟩ p l c 3 W hl
 have hbox : ∀ O : Obj, Below w.heap.size w (w.alloc O) := fun O => (Below.refl _ _).alloc (Nat.le_refl _) O
 generalize hJ : justB ⟨14, op, pl, nn, nm, ar, ex⟩ ⟨0, 0, 0, 0, ⟨#[]⟩, ⟨#[]⟩, ⟨#[]⟩⟩ l 3 = J at *
 have HNO := Lib.hid hn; have HBOX := Lib.hid hbox; have JW := Lib.hid hj; have HKW := Lib.hid hkw; have HS4 := Lib.hid hs4; have HS5 := Lib.hid hs5; have HS6 := Lib.hid hs6; have HJ := Lib.hid hJ
 clear hn hbox hj hkw hs4 hs5 hs6 hl hJ
 go_enter Tryz.func99, Tryz.ntmps99
 go_wp2_with (fail)
 refine (JW.out _).mono ?_
 rintro e w1 ⟨rfl, hb1⟩
 have HB1 := Lib.hid ((HBOX.out _).trans (hb1.mono (HBOX.out _).size)); clear hb1
 cases J
 ·go_wp2
  go_ret
  exact ⟨ret_bool (by rw [HNO.out]), HB1.out⟩
 ·go_wp2
  go_ret
  exact ⟨ret_bool (by rw [HNO.out]), HB1.out⟩

end Term
end Go.Proofs.YtkfkpjngiffamaaGreatDoor
namespace Go.Proofs.YtkfkpjngiffamaaGreatDoor
open Go.RowKit
set_option linter.unusedVariables false
namespace Term
open Words (nameB exnB)

set_option maxRecDepth 100000 in
set_option maxHeartbeats 6400000 in
theorem fits_15 (op pl nn : Int) (nm ar ex : ByteArray) (p : Option Addr) (l c : Nat) (w : World) (hop : 0 ≤ op ∧ op ≤ 255) (hl : l ≤ maxLen) (hs4 : nm.size ≤ maxLen) (hs5 : ar.size ≤ maxLen) (hs6 : ex.size ≤ maxLen) (hkw : Words.KwLaid w) :
  Calls Tryz.prog 99 #[.agg #[.int .u8 15, .int .u8 op, .int .i64 pl, .int .i64 nn, .string nm, .string ar, .string ex, .slice p l c]] w fun e w' => e = .returned (.bool (nodeB ⟨15, op, pl, nn, nm, ar, ex⟩ l)) ∧ Below w.heap.size w w' := by
 have hn := node_is15 op pl nn nm ar ex l
 have hj := fun W => just_walk ⟨15, op, pl, nn, nm, ar, ex⟩ ⟨0, 0, 0, 0, ⟨#[]⟩, ⟨#[]⟩, ex⟩ p l c 1 W hl
 have hbox : ∀ O : Obj, Below w.heap.size w (w.alloc O) := fun O => (Below.refl _ _).alloc (Nat.le_refl _) O
 generalize hJ : justB ⟨15, op, pl, nn, nm, ar, ex⟩ ⟨0, 0, 0, 0, ⟨#[]⟩, ⟨#[]⟩, ex⟩ l 1 = J at *
 have HNO := Lib.hid hn; have HBOX := Lib.hid hbox; have JW := Lib.hid hj; have HKW := Lib.hid hkw; have HS4 := Lib.hid hs4; have HS5 := Lib.hid hs5; have HS6 := Lib.hid hs6; have HJ := Lib.hid hJ
 clear hn hbox hj hkw hs4 hs5 hs6 hl hJ
 go_enter Tryz.func99, Tryz.ntmps99
 go_wp2_with (fail)
 refine (JW.out _).mono ?_
 rintro e w1 ⟨rfl, hb1⟩
 have b6 := boxAt hb1 6 rfl
 have HB1 := Lib.hid ((HBOX.out _).trans (hb1.mono (HBOX.out _).size)); clear hb1
 cases J
 ·go_wp2
  go_ret
  exact ⟨ret_bool (by rw [HNO.out]; rfl), HB1.out⟩
 ·go_wp2_with (fail)
  refine (Words.exn_at ex _ _ _ rfl HS6.out).mono ?_
  rintro e w2 ⟨rfl, hb2⟩
  have HB2 := Lib.hid (HB1.out.trans (hb2.mono HB1.out.size)); clear hb2
  cases hx : exnB ex
  all_goals
   have HX := Lib.hid hx
   clear hx
   go_wp2
   go_ret
   exact ⟨ret_bool (by rw [HNO.out, HX.out]; rfl), HB2.out⟩

set_option maxRecDepth 100000 in
set_option maxHeartbeats 6400000 in
theorem fits_16 (op pl nn : Int) (nm ar ex : ByteArray) (p : Option Addr) (l c : Nat) (w : World) (hop : 0 ≤ op ∧ op ≤ 255) (hl : l ≤ maxLen) (hs4 : nm.size ≤ maxLen) (hs5 : ar.size ≤ maxLen) (hs6 : ex.size ≤ maxLen) (hkw : Words.KwLaid w) :
  Calls Tryz.prog 99 #[.agg #[.int .u8 16, .int .u8 op, .int .i64 pl, .int .i64 nn, .string nm, .string ar, .string ex, .slice p l c]] w fun e w' => e = .returned (.bool (nodeB ⟨16, op, pl, nn, nm, ar, ex⟩ l)) ∧ Below w.heap.size w w' := by
 have hn := node_is16 op pl nn nm ar ex l
 have hj := fun W => just_walk ⟨16, op, pl, nn, nm, ar, ex⟩ ⟨0, 0, 0, 0, ⟨#[]⟩, ar, ex⟩ p l c 2 W hl
 have hbox : ∀ O : Obj, Below w.heap.size w (w.alloc O) := fun O => (Below.refl _ _).alloc (Nat.le_refl _) O
 generalize hJ : justB ⟨16, op, pl, nn, nm, ar, ex⟩ ⟨0, 0, 0, 0, ⟨#[]⟩, ar, ex⟩ l 2 = J at *
 have HNO := Lib.hid hn; have HBOX := Lib.hid hbox; have JW := Lib.hid hj; have HKW := Lib.hid hkw; have HS4 := Lib.hid hs4; have HS5 := Lib.hid hs5; have HS6 := Lib.hid hs6; have HJ := Lib.hid hJ
 clear hn hbox hj hkw hs4 hs5 hs6 hl hJ
 go_enter Tryz.func99, Tryz.ntmps99
 go_wp2_with (fail)
 refine (JW.out _).mono ?_
 rintro e w1 ⟨rfl, hb1⟩
 have b5 := boxAt hb1 5 rfl
 have b6 := boxAt hb1 6 rfl
 have HB1 := Lib.hid ((HBOX.out _).trans (hb1.mono (HBOX.out _).size)); clear hb1
 cases J
 ·go_wp2
  go_ret
  exact ⟨ret_bool (by rw [HNO.out]; rfl), HB1.out⟩
 ·go_wp2_with (fail)
  refine (Words.exn_at ex _ _ _ rfl HS6.out).mono ?_
  rintro e w2 ⟨rfl, hb2⟩
  have hlt := World.block_lt_of_cell? w1 _ b5
  have d5 := (hb2.cell (p := ⟨w.heap.size, 5, none⟩) hlt).trans b5
  have HB2 := Lib.hid (HB1.out.trans (hb2.mono HB1.out.size)); clear hb2 hlt b5 b6
  cases hx : exnB ex
  ·have HX := Lib.hid hx
   clear hx
   go_wp2
   go_ret
   exact ⟨ret_bool (by rw [HNO.out, HX.out]; rfl), HB2.out⟩
  ·have HX := Lib.hid hx
   clear hx
   go_wp2_with (fail)
   refine (Words.name_at ar _ _ _ rfl HS5.out (HKW.out.below HB2.out)).mono ?_
   rintro e w3 ⟨rfl, hb3⟩
   have HB3 := Lib.hid (HB2.out.trans (hb3.mono HB2.out.size)); clear hb3
   cases hy : nameB ar
   all_goals
    have HY := Lib.hid hy
    clear hy
    go_wp2
    go_ret
    exact ⟨ret_bool (by rw [HNO.out, HX.out, HY.out]; rfl), HB3.out⟩

set_option maxRecDepth 100000 in
set_option maxHeartbeats 6400000 in
theorem fits_other (k op pl nn : Int) (nm ar ex : ByteArray) (p : Option Addr) (l c : Nat) (w : World) (hk : k < 1 ∨ 16 < k) :
  Calls Tryz.prog 99 #[.agg #[.int .u8 k, .int .u8 op, .int .i64 pl, .int .i64 nn, .string nm, .string ar, .string ex, .slice p l c]] w fun e w' => e = .returned (.bool (nodeB ⟨k, op, pl, nn, nm, ar, ex⟩ l)) ∧ Below w.heap.size w w' := by
 have hn := node_none hk op pl nn nm ar ex l
 have hbox : ∀ O : Obj, Below w.heap.size w (w.alloc O) := fun O => (Below.refl _ _).alloc (Nat.le_refl _) O
 have hne : ∀ v : Int, 1 ≤ v → v ≤ 16 → (k == v) = false := fun v h2 h3 => by rw [beq_eq_false_iff_ne]; omega
 have e1 := hne 1 (by omega) (by omega)
 have e2 := hne 2 (by omega) (by omega)
 have e3 := hne 3 (by omega) (by omega)
 have e4 := hne 4 (by omega) (by omega)
 have e5 := hne 5 (by omega) (by omega)
 have e6 := hne 6 (by omega) (by omega)
 have e7 := hne 7 (by omega) (by omega)
 have e8 := hne 8 (by omega) (by omega)
 have e9 := hne 9 (by omega) (by omega)
 have e10 := hne 10 (by omega) (by omega)
 have e11 := hne 11 (by omega) (by omega)
 have e12 := hne 12 (by omega) (by omega)
 have e13 := hne 13 (by omega) (by omega)
 have e14 := hne 14 (by omega) (by omega)
 have e15 := hne 15 (by omega) (by omega)
 have e16 := hne 16 (by omega) (by omega)
 have HNO := Lib.hid hn; have HBOX := Lib.hid hbox
 clear hn hbox hne hk
 go_enter Tryz.func99, Tryz.ntmps99
 go_wp2
 go_ret
 exact ⟨ret_bool HNO.out.symm, HBOX.out _⟩

end Term
end Go.Proofs.YtkfkpjngiffamaaGreatDoor
namespace Go.Proofs.YtkfkpjngiffamaaGreatDoor
open Go.RowKit
set_option linter.unusedVariables false
namespace Term
open Words (nameB exnB)

theorem fits_walk' (h : Hd) (p : Option Addr) (l c : Nat) (w : World) (ho : HdOk h) (hl : l ≤ maxLen) (hkw : Words.KwLaid w) :
  Calls Tryz.prog 99 #[.agg #[.int .u8 h.k, .int .u8 h.op, .int .i64 h.pl, .int .i64 h.n, .string h.name, .string h.arg, .string h.exn, .slice p l c]] w fun e w' => e = .returned (.bool (nodeB h l)) ∧ Below w.heap.size w w' := by
 obtain ⟨k, op, pl, nn, nm, ar, ex⟩ := h
 obtain ⟨h1, h2, h3, h4, h5, h6, h7⟩ := ho
 by_cases hk : 1 ≤ k ∧ k ≤ 16
 ·have hh : k = 1 ∨ k = 2 ∨ k = 3 ∨ k = 4 ∨ k = 5 ∨ k = 6 ∨ k = 7 ∨ k = 8 ∨ k = 9 ∨ k = 10 ∨ k = 11 ∨ k = 12 ∨ k = 13 ∨ k = 14 ∨ k = 15 ∨ k = 16 := by omega
  clear hk
  rcases hh with rfl | rfl | rfl | rfl | rfl | rfl | rfl | rfl | rfl | rfl | rfl | rfl | rfl | rfl | rfl | rfl
  ·exact fits_1 op pl nn nm ar ex p l c w h2 hl h5 h6 h7 hkw
  ·exact fits_2 op pl nn nm ar ex p l c w h2 hl h5 h6 h7 hkw
  ·exact fits_3 op pl nn nm ar ex p l c w h2 hl h5 h6 h7 hkw
  ·exact fits_4 op pl nn nm ar ex p l c w h2 hl h5 h6 h7 hkw
  ·exact fits_5 op pl nn nm ar ex p l c w h2 hl h5 h6 h7 hkw
  ·exact fits_6 op pl nn nm ar ex p l c w h2 hl h5 h6 h7 hkw
  ·exact fits_7 op pl nn nm ar ex p l c w h2 hl h5 h6 h7 hkw
  ·exact fits_8 op pl nn nm ar ex p l c w h2 hl h5 h6 h7 hkw
  ·exact fits_9 op pl nn nm ar ex p l c w h2 hl h5 h6 h7 hkw
  ·exact fits_10 op pl nn nm ar ex p l c w h2 hl h5 h6 h7 hkw
  ·exact fits_11 op pl nn nm ar ex p l c w h2 hl h5 h6 h7 hkw
  ·exact fits_12 op pl nn nm ar ex p l c w h2 hl h5 h6 h7 hkw
  ·exact fits_13 op pl nn nm ar ex p l c w h2 hl h5 h6 h7 hkw
  ·exact fits_14 op pl nn nm ar ex p l c w h2 hl h5 h6 h7 hkw
  ·exact fits_15 op pl nn nm ar ex p l c w h2 hl h5 h6 h7 hkw
  ·exact fits_16 op pl nn nm ar ex p l c w h2 hl h5 h6 h7 hkw
 ·exact fits_other k op pl nn nm ar ex p l c w (by omega)
end Term
end Go.Proofs.YtkfkpjngiffamaaGreatDoor
