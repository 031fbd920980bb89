/- The walk of the program's look at a node's fields. -/
import Derived.Test.YtpedmaomogigmaaDoorTermSameP
import Derived.RegionTactic
import Derived.BigRegion
namespace Go.Proofs.YtpedmaomogigmaaDoor
open Go.RowKit
set_option linter.unusedVariables false
namespace Term

/-- Just these fields, and so many kids? -/
def justP (h f : Hd) (l : Nat) (kids : Int) : Prop := 0 ≤ h.pl ∧ h.op = f.op ∧ h.n = f.n ∧ h.name = f.name ∧ h.arg = f.arg ∧ h.exn = f.exn ∧ (l : Int) = kids
instance (h f : Hd) (l : Nat) (kids : Int) : Decidable (justP h f l kids) := by unfold justP; infer_instance
def justB (h f : Hd) (l : Nat) (kids : Int) : Bool := decide (justP h f l kids)
theorem just_of {k op pl nn op' nn' kids : Int} {nm ar ex nm' ar' ex' : ByteArray} {fk fp : Int} {l : Nat} (h1 : 0 ≤ pl) (h2 : op = op') (h3 : nn = nn') (h4 : nm.toList = nm'.toList) (h5 : ar.toList = ar'.toList) (h6 : ex.toList = ex'.toList) (h7 : (l : Int) = kids) :
    justP ⟨k, op, pl, nn, nm, ar, ex⟩ ⟨fk, op', fp, nn', nm', ar', ex'⟩ l kids := ⟨h1, h2, h3, toList_inj h4, toList_inj h5, toList_inj h6, h7⟩

set_option maxRecDepth 100000 in
set_option maxHeartbeats 6400000 in
theorem just_walk (h f : Hd) (p : Option Addr) (l c : Nat) (kids : Int) (w : World) (hl : l ≤ maxLen) :
    Calls Tryd.prog 32 #[.agg #[.int .u8 h.k, .int .u8 h.op, .int .i64 h.pl, .int .i64 h.n, .string h.name, .string h.arg, .string h.exn, .slice p l c], .int .i64 kids,
      .agg #[.int .u8 f.k, .int .u8 f.op, .int .i64 f.pl, .int .i64 f.n, .string f.name, .string f.arg, .string f.exn]] w fun e w' => e = .returned (.bool (justB h f l kids)) ∧ Below w.heap.size w w' := by
  unfold maxLen at hl
  obtain ⟨k, op, pl, nn, nm, ar, ex⟩ := h
  obtain ⟨fk, op', fp, nn', nm', ar', ex'⟩ := f
  have hbox : ∀ O O' : Obj, Below w.heap.size w ((w.alloc O).alloc O').drew := fun O O' => (((Below.refl _ _).alloc (Nat.le_refl _) O).alloc (by simp) O').drew
  have HBOX := Lib.hid hbox
  clear hbox
  by_cases hj : justP ⟨k, op, pl, nn, nm, ar, ex⟩ ⟨fk, op', fp, nn', nm', ar', ex'⟩ l kids
  · have hr : justB ⟨k, op, pl, nn, nm, ar, ex⟩ ⟨fk, op', fp, nn', nm', ar', ex'⟩ l kids = true := decide_eq_true hj
    have HR := Lib.hid hr
    unfold justP at hj
    simp only at hj
    clear hr
    obtain ⟨hp, rfl, rfl, rfl, rfl, rfl, rfl⟩ := hj
    go_enter Tryd.func32, Tryd.ntmps32
    go_wp2_with (fail)
    go_region
    all_goals go_wp2_with (fail)
    all_goals go_ret
    all_goals exact ⟨ret_bool HR.out.symm, HBOX.out _ _⟩
  · have hr : justB ⟨k, op, pl, nn, nm, ar, ex⟩ ⟨fk, op', fp, nn', nm', ar', ex'⟩ l kids = false := decide_eq_false hj
    have HR := Lib.hid hr; have HJ := Lib.hid hj
    clear hr hj
    go_enter Tryd.func32, Tryd.ntmps32
    go_wp2_with (fail)
    go_region
    all_goals go_wp2_with (fail)
    all_goals go_ret
    all_goals first
      | exact ⟨ret_bool HR.out.symm, HBOX.out _ _⟩
      | exact ⟨ret_bool ((beq_eq_false_iff_ne.2 fun e => HJ.out (just_of (by assumption) (by assumption) (by assumption) (by assumption) (by assumption) (by assumption) e)).trans HR.out.symm), HBOX.out _ _⟩
end Term
end Go.Proofs.YtpedmaomogigmaaDoor
