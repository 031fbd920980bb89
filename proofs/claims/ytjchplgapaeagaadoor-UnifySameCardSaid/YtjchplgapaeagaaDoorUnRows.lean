/- Rows of rows of types, as an argument. -/
import Derived.Test.YtjchplgapaeagaaDoorUnAgainW
namespace Go.Proofs.YtjchplgapaeagaaDoor
open Go.RowKit
set_option linter.unusedVariables false
set_option linter.unusedSimpArgs false
namespace Types

theorem Book.p0 {P : Nat → Bool} {k : Bk} {w : World} {n m : Nat} {S : (Nat → Ty) → Prop} {σ : Nat → Ty} (h : Book P k w n S σ m) : Book (P0 P w.heap.size) k w n S σ m := by
  obtain ⟨e, g, nm, st, r, h1, h⟩ := h
  exact ⟨e, g, nm, st, r, h1.reP (P0_reads P w) (P0_false h1.me.pb) (P0_false h1.me.ps) (P0_false h1.me.pi) (fun x hx => by cases hx), h⟩
theorem Book.p0back {P : Nat → Bool} {B : Nat} {k : Bk} {w : World} {n m : Nat} {S : (Nat → Ty) → Prop} {σ : Nat → Ty} (h : Book (P0 P B) k w n S σ m) (hp : P k.b = false ∧ P k.s = false ∧ P k.i = false) : Book P k w n S σ m := by
  obtain ⟨e, g, nm, st, r, h1, h⟩ := h
  exact ⟨e, g, nm, st, r, h1.reP (P0_back w) hp.1 hp.2.1 hp.2.2 (fun x hx => by cases hx), h⟩
theorem p0_iff {P : Nat → Bool} {B b : Nat} : P0 P B b = true ↔ P b = true ∧ b < B := by unfold P0; rw [Bool.and_eq_true, decide_eq_true_iff]
def rget (rows : List (List Ty)) (i : Nat) : List Ty := rows.getD i []
theorem rget_mem {rows : List (List Ty)} {i : Nat} (h : i < rows.length) : rget rows i ∈ rows := by
  unfold rget
  rw [List.getD_eq_getElem?_getD, List.getElem?_eq_getElem h]
  exact List.getElem_mem h
/-- A row of rows, as memory holds it. -/
def RowsAt (w : World) (p : Option Addr) (rows : List (List Ty)) : Prop := ∀ i, i < rows.length → ∃ b o q l c, p = some ⟨b, o, none⟩ ∧ w.cell? ⟨b, o + i, none⟩ = some (.slice q l c) ∧ IsTys w q l c (rget rows i)
def IsRows (w : World) (a : Option Addr) (len cap : Nat) (rows : List (List Ty)) : Prop := rows.length = len ∧ len ≤ cap ∧ cap ≤ maxLen ∧ RowsAt w a rows
theorem RowsAt.reads {w W : World} {p : Option Addr} {rows : List (List Ty)} (h : RowsAt w p rows) (hr : Reads w W) : RowsAt W p rows := fun i hi => by
  obtain ⟨b, o, q, l, c, h1, h2, h3, h4, h5, h6⟩ := h i hi
  exact ⟨b, o, q, l, c, h1, hr _ _ h2, h3, h4, h5, h6.reads' hr⟩
section
variable {H : Type} {enc : TypeId × Value → H} {w : World} {base : Nat} {sp : Nat → Bool} {held : Bool}
theorem rowCells : Tryd.prog.cellsOf 23 = 1 := by kernel_rfl
theorem open_rows {fuel : Nat} {a : Option Addr} {len cap : Nat} {y : DataW H × List MemPlace} (h : DataW.trod enc Tryd.prog w base sp held fuel 22 (Value.slice a len cap).cells.toList = some y) : ∃ rows, IsRows w a len cap rows := by
  rcases DataW.trod_slice Tryd.underlying22 h with ⟨hcs, _⟩ | ⟨a', len', cap', elems, rest, n, hfuel, hcs, _, hb, hl, hm, hlen, hel, _, _⟩
  · have h5 : [Value.slice a len cap] = [.slice none 0 0] := hcs
    injection h5 with h5
    injection h5 with e1 e2 e3
    subst e1 e2 e3
    exact ⟨[], rfl, Nat.le_refl _, by unfold maxLen; omega, fun i hi => by simp at hi⟩
  · have h5 : [Value.slice a len cap] = [.slice (some a') len' cap'] := hcs
    injection h5 with h5
    injection h5 with e1 e2 e3
    subst e1 e2 e3
    have each : ∀ i, ∃ r : Option Addr × Nat × Nat × List Ty, i < len → w.cell? (a'.add i) = some (.slice r.1 r.2.1 r.2.2.1) ∧ IsTys w r.1 r.2.1 r.2.2.1 r.2.2.2 := by
      intro i
      by_cases hi : i < len
      · have he := hel i hi
        rw [rowCells, List.getElem?_eq_getElem (by omega)] at he
        obtain ⟨cs', hc, ht⟩ := Option.bind_eq_some_iff.1 he
        obtain ⟨p, l, c, ts, rfl, h1, h2, h3, h4⟩ := (open_all n).2 _ _ ht
        obtain ⟨_, _, hcell⟩ := World.cells?_some hc
        have hz := hcell 0 (by omega)
        refine ⟨(p, l, c, ts), fun _ => ⟨?_, h1, h2, h3, h4⟩⟩
        have e : (a'.add (i * 1)).add 0 = a'.add i := by
          rw [Nat.mul_one]; unfold Addr.add; split <;> simp_all
        rw [e] at hz
        exact hz
      · exact ⟨(none, 0, 0, []), fun h => absurd h hi⟩
    obtain ⟨R, hR⟩ := Classical.axiomOfChoice each
    have hlen' : ((List.range len).map fun i => (R i).2.2.2).length = len := by simp
    refine ⟨(List.range len).map fun i => (R i).2.2.2, hlen', hl, hm, fun i hi => ?_⟩
    rw [hlen'] at hi
    obtain ⟨h1, h2⟩ := hR i hi
    obtain ⟨b, o, s⟩ := a'
    have hs : s = none := by
      have := World.cell?_spot (hR 0 (by omega)).1
      simpa [Addr.add] using this
    subst hs
    rw [Addr.add_lit] at h1
    have hg : rget ((List.range len).map fun i => (R i).2.2.2) i = (R i).2.2.2 := by
      unfold rget
      rw [List.getD_eq_getElem?_getD, List.getElem?_map, List.getElem?_range hi]
      rfl
    exact ⟨b, o, _, _, _, rfl, h1, by rw [hg]; exact h2⟩
end
end Types
end Go.Proofs.YtjchplgapaeagaaDoor
