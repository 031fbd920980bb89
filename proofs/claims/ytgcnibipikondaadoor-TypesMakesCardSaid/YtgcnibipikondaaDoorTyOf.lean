/- The walks of the program's of, Int, Pair and Ref. -/
import Derived.Test.YtgcnibipikondaaDoorTyCopy
namespace Go.Proofs.YtgcnibipikondaaDoor
open Go.RowKit
set_option linter.unusedVariables false
namespace Types

/-- How it ends: a type whose kids lie in new memory. -/
def OfEnd (k : Int) (ts : List Ty) (w : World) (e : Ending) (w' : World) : Prop :=
  ∃ q c, e = .returned (.agg #[.int .u8 k, .int .i64 0, .slice q ts.length c]) ∧ TyIs (veil (from_ w.heap.size) w') ⟨k, 0⟩ q ts.length c (.node ⟨k, 0⟩ ts) ∧ Below w.heap.size w w'
theorem cells3 {W : World} {N : Nat} {a0 a1 a2 : Value} {ty : TypeId} (h : W.heap[N]? = some (.cells #[a0, a1, a2] ty (0, 0))) :
    (W.cell? ⟨N, 0, none⟩ = some a0 ∧ W.cell? ⟨N, 1, none⟩ = some a1 ∧ W.cell? ⟨N, 2, none⟩ = some a2) ∧ (W.frozen? ⟨N, 0, none⟩ = false ∧ W.frozen? ⟨N, 1, none⟩ = false ∧ W.frozen? ⟨N, 2, none⟩ = false) := by
  simp [World.cell?, World.frozen?, h]
theorem set3_other (W : World) (N : Nat) (a b c : Value) {i : Nat} (hi : i ≠ N) : (((W.setCell ⟨N, 0, none⟩ a).setCell ⟨N, 1, none⟩ b).setCell ⟨N, 2, none⟩ c).heap[i]? = W.heap[i]? := by
  rw [Below.heap_setCell _ _ _ _ hi, Below.heap_setCell _ _ _ _ hi, Below.heap_setCell _ _ _ _ hi]
theorem set3_below {B N : Nat} {W : World} (a b c : Value) (hN : B ≤ N) : Below B W (((W.setCell ⟨N, 0, none⟩ a).setCell ⟨N, 1, none⟩ b).setCell ⟨N, 2, none⟩ c) :=
  (((Below.refl B W).setCell (p := ⟨N, 0, none⟩) hN _).setCell (p := ⟨N, 1, none⟩) hN _).setCell (p := ⟨N, 2, none⟩) hN _

set_option maxRecDepth 10000 in
set_option maxHeartbeats 6400000 in
theorem of_walk (k : Int) (hk0 : 0 ≤ k ∧ k ≤ 255) (ts : List Ty) (p : Option Addr) (l d : Nat) (w : World) (hw : wts ts ≤ 100000) (hl : ts.length = l) (hlm : l ≤ 100000) (hk : Kids w p ts) :
    Calls Tryd.prog 38 #[.int .u8 k, .slice p l d] w (OfEnd k ts w) := by
  have hcp := fun O : Obj => copied_walk (wts ts) ts p l d (w.alloc O) (Nat.le_refl _) hw hl hlm (hk.stay (box_new O))
  have HCP := Lib.hid hcp; have HL := Lib.hid hl; have HK0 := Lib.hid hk0
  clear hcp hw hl hlm hk hk0
  go_enter Tryd.func38, Tryd.ntmps38
  go_wp2_with (fail)
  refine (HCP.out _).mono ?_
  rintro e w2 ⟨q2, c2, rfl, hq1, hq2, hk2, hb2⟩
  have hX := (hb2.block w.heap.size (by simp)).trans (heap_alloc_new w _)
  obtain ⟨⟨x0, x1, x2⟩, y0, y1, y2⟩ := cells3 hX
  have HB2 := Lib.hid ((box_new (w := w) (.cells #[.int .u8 0, .int .i64 0, .slice none 0 0] 24)).trans (hb2.mono (by simp)))
  have HK2 := Lib.hid hk2; have HQ := Lib.hid (And.intro hq1 hq2)
  clear hX hb2 hk2 hq1 hq2
  go_wp2_with (fail)
  refine bodyPost_ret (v := .agg #[.int .u8 k, .int .i64 0, .slice q2 l c2]) (by simp [results, Tryd.results38, go_sem, x0, x1, x2]) rfl ?_
  have hL := HL.out
  subst hL
  refine ⟨q2, c2, rfl, ⟨rfl, rfl, ⟨HK0.out, by show (-9223372036854775808 : Int) ≤ 0 ∧ (0 : Int) ≤ 9223372036854775807; omega⟩, HQ.out, HK2.out.reads' (veil_to fun b hb hp => ?_)⟩, HB2.out.trans (set3_below _ _ _ (Nat.le_refl _))⟩
  have hp' : w.heap.size + 1 ≤ b := by have := of_decide_eq_true hp; simpa using this
  exact ⟨decide_eq_true (by omega), set3_other _ _ _ _ _ (by omega)⟩
end Types
end Go.Proofs.YtgcnibipikondaaDoor
