/- For layer 8's statement on what is made of types: what is wanted, in its own box. -/
import Derived.Test.YtgcnibipikondaaDoorTyMakesM
namespace Go.Proofs.YtgcnibipikondaaDoor
open Go.RowKit
set_option linter.unusedVariables false
namespace Types

def ne_ (N : Nat) (i : Nat) : Bool := decide (i ≠ N)
/-- What is wanted lies in the box N, its kids elsewhere. -/
def WantAt (w : World) (N : Nat) (T : Ty) (W : World) : Prop :=
  Below w.heap.size w W ∧ ∃ h q l c, W.heap[N]? = some (.cells #[.int .u8 h.k, .int .i64 h.v, .slice q l c] 24 (0, 0)) ∧ TyIs (veil (ne_ N) W) h q l c T
theorem WantAt.later {w : World} {N : Nat} {T : Ty} {W W' : World} (h : WantAt w N T W) (hb : Below W.heap.size W W') : WantAt w N T W' := by
  obtain ⟨h0, hd, q, l, c, hN, hT⟩ := h
  exact ⟨below_then h0 hb h0.size, hd, q, l, c, (hb.block _ (lt_of_block hN)).trans hN, hT.reads' (veil_to fun b hbl hp => ⟨hp, hb.block b hbl⟩)⟩
theorem reads_ne {w : World} {N : Nat} (hN : w.heap.size ≤ N) {W : World} (hb : Below w.heap.size w W) : Reads w (veil (ne_ N) W) :=
  veil_from fun b hbl => ⟨decide_eq_true (by omega), hb.block b hbl⟩
theorem set3_cells {W : World} {N : Nat} {a0 a1 a2 : Value} {ty : TypeId} (h : W.heap[N]? = some (.cells #[a0, a1, a2] ty (0, 0))) (x y z : Value) :
    (((W.setCell ⟨N, 0, none⟩ x).setCell ⟨N, 1, none⟩ y).setCell ⟨N, 2, none⟩ z).heap[N]? = some (.cells #[x, y, z] ty (0, 0)) := by
  simp [World.setCell, Array.getElem?_modify, h]
theorem want_set {w : World} {N : Nat} {T : Ty} {W : World} (h : WantAt w N T W) (hN : w.heap.size ≤ N) {h' : Hd} {q' : Option Addr} {l' c' : Nat} {x : Ty} (hX : TyIs w h' q' l' c' x) :
    WantAt w N x (((W.setCell ⟨N, 0, none⟩ (.int .u8 h'.k)).setCell ⟨N, 1, none⟩ (.int .i64 h'.v)).setCell ⟨N, 2, none⟩ (.slice q' l' c')) := by
  obtain ⟨h0, hd, q, l, c, hB, hT⟩ := h
  have hb3 := h0.trans (set3_below (W := W) (.int .u8 h'.k) (.int .i64 h'.v) (.slice q' l' c') hN)
  exact ⟨hb3, h', q', l', c', set3_cells hB _ _ _, hX.reads' (reads_ne hN hb3)⟩
theorem want_pair {w : World} {N : Nat} {T : Ty} {W W2 : World} (h0 : Below w.heap.size w W) {hd : Hd} {q : Option Addr} {l c : Nat} (hB : W.heap[N]? = some (.cells #[.int .u8 hd.k, .int .i64 hd.v, .slice q l c] 24 (0, 0))) (hT : TyIs (veil (ne_ N) W) hd q l c T) (hN : w.heap.size ≤ N)
    {h' : Hd} {q' : Option Addr} {l' c' : Nat} {x : Ty} (hX : TyIs w h' q' l' c' x)
    (hb2 : Below (W.alloc (.cells #[.int .u8 h'.k, .int .i64 h'.v, .slice q' l' c', .int .u8 hd.k, .int .i64 hd.v, .slice q l c] 24)).heap.size (W.alloc (.cells #[.int .u8 h'.k, .int .i64 h'.v, .slice q' l' c', .int .u8 hd.k, .int .i64 hd.v, .slice q l c] 24)) W2) :
    WantAt w N (.node ⟨4, 0⟩ [x, T]) (((W2.setCell ⟨N, 0, none⟩ (.int .u8 4)).setCell ⟨N, 1, none⟩ (.int .i64 0)).setCell ⟨N, 2, none⟩ (.slice (some ⟨W.heap.size, 0, none⟩) 2 2)) := by
  have hNl := lt_of_block hB
  have hsz : (W.alloc (.cells #[.int .u8 h'.k, .int .i64 h'.v, .slice q' l' c', .int .u8 hd.k, .int .i64 hd.v, .slice q l c] 24)).heap.size = W.heap.size + 1 := by simp
  have hBW : Below W.heap.size W W2 := (box_new _).trans (hb2.mono (by simp))
  have hB2 : W2.heap[N]? = some (.cells #[.int .u8 hd.k, .int .i64 hd.v, .slice q l c] 24 (0, 0)) := (hBW.block _ hNl).trans hB
  have hb3 := (below_then h0 hBW h0.size).trans (set3_below (W := W2) (.int .u8 4) (.int .i64 0) (.slice (some ⟨W.heap.size, 0, none⟩) 2 2) hN)
  refine ⟨hb3, ⟨4, 0⟩, some ⟨W.heap.size, 0, none⟩, 2, 2, set3_cells hB2 _ _ _, ⟨rfl, rfl, ok_node (by omega), ⟨Nat.le_refl _, by unfold maxLen; omega⟩, ?_⟩⟩
  refine (kids_two (hX.reads' (reads_ne hN h0)) hT 24 W.heap.size (veil_size _ _).symm).reads' (fun a v hv => ?_)
  have hlt := World.block_lt_of_cell? _ _ hv
  rw [World.size_alloc, veil_size] at hlt
  by_cases he : a.block = W.heap.size
  · have hvis : ne_ N a.block = true := decide_eq_true (by omega)
    rw [World.cell?_of_block (veil_at hvis), World.cell?_of_block (set3_other _ _ _ _ _ (by omega : a.block ≠ N)), ← hv]
    apply World.cell?_of_block
    have e1 := heap_alloc_new (veil (ne_ N) W) (.cells #[.int .u8 h'.k, .int .i64 h'.v, .slice q' l' c', .int .u8 hd.k, .int .i64 hd.v, .slice q l c] 24)
    have e2 := heap_alloc_new W (.cells #[.int .u8 h'.k, .int .i64 h'.v, .slice q' l' c', .int .u8 hd.k, .int .i64 hd.v, .slice q l c] 24)
    rw [veil_size] at e1
    rw [he, e1, hb2.block _ (by omega), e2]
  · have h2 : (veil (ne_ N) W).cell? a = some v := by
      rw [← hv]
      exact (World.cell?_of_block (Below.heap_alloc _ _ a.block (by rw [veil_size]; omega))).symm
    obtain ⟨hp, h3⟩ := veil_seen h2
    have hp' := of_decide_eq_true hp
    rw [World.cell?_of_block (veil_at hp), World.cell?_of_block (set3_other _ _ _ _ _ hp'), World.cell?_of_block (hBW.block _ (by omega))]
    exact h3
theorem want_is {w : World} {N : Nat} {T : Ty} {W : World} (h : WantAt w N T W) : ∃ hd q l c, W.heap[N]? = some (.cells #[.int .u8 hd.k, .int .i64 hd.v, .slice q l c] 24 (0, 0)) ∧ TyIs W hd q l c T := by
  obtain ⟨_, hd, q, l, c, hB, hT⟩ := h
  exact ⟨hd, q, l, c, hB, hT.reads' (veil_reads _ _)⟩
end Types
end Go.Proofs.YtgcnibipikondaaDoor
