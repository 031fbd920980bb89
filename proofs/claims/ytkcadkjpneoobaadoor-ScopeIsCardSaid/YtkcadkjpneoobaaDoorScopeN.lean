/- Rows of texts that a statement makes. -/
import Derived.Test.YtkcadkjpneoobaaDoorScopeG
import Derived.Test.YtkcadkjpneoobaaDoorScopeL
namespace Go.Proofs.YtkcadkjpneoobaaDoor
open Go.RowKit
set_option linter.unusedVariables false
set_option linter.unusedSimpArgs false
namespace Scope
open Words (str_no str_yes sel StrsAt)

/-- A row that began as an empty one, in block g. -/
structure LeftI (w6 : World) (g : Nat) (wr : World) (v : Value) (ns : List ByteArray) : Prop where
  below : Below w6.heap.size w6 wr
  lt : g < w6.heap.size
  row : (v = .slice (some ⟨g, 0, none⟩) 0 0 ∧ ns = [] ∧ wr.heap[g]? = some (.cells #[] 9 (0, 0))) ∨ Nm wr w6.heap.size v ns
theorem nm_empty {w : World} {g : Nat} (h : w.heap[g]? = some (.cells #[] 9 (0, 0))) : Nm w g (.slice (some ⟨g, 0, none⟩) 0 0) [] :=
  ⟨rfl, .inr ⟨g, 0, #[], rfl, Nat.le_refl _, h, Nat.le_refl _, by unfold maxLen; omega, rfl, rfl⟩⟩
theorem LeftI.nm {w6 wr : World} {g : Nat} {v : Value} {ns : List ByteArray} (h : LeftI w6 g wr v ns) : Nm wr g v ns := by
  rcases h.row with ⟨rfl, rfl, h1⟩ | h1
  · exact nm_empty h1
  · refine ⟨h1.1, h1.2.elim .inl fun ⟨g', cap, cur, e, h2, h3⟩ => .inr ⟨g', cap, cur, e, by have := h.lt; omega, h3⟩⟩
theorem LeftI.later {w6 wr W : World} {g : Nat} {v : Value} {ns : List ByteArray} (h : LeftI w6 g wr v ns) (hb : Below wr.heap.size wr W) : LeftI w6 g W v ns :=
  ⟨h.below.trans (hb.mono h.below.size), h.lt, h.row.imp (fun ⟨a, b, c⟩ => ⟨a, b, (hb.block _ (lt_of_block c)).trans c⟩) (fun k => k.keep (Keep.of_below (Z := fun _ => False) hb) (fun _ _ h => h))⟩
/-- One text more. -/
theorem left_append {w6 wr : World} {g : Nat} {x : ByteArray} {ops : Array Oper} {rest : List Oper} {o : Oper} {a : Act} {Q : Exit → Act → World → Prop} (hgd : o.guard = none) (s y : Operand)
    (ho : o.op = .call { callee := .builtin .append, args := #[s, y], argTypes := #[39, 39] })
    (v : Value) (ns : List ByteArray) (hs : a.eval s = v) (h : LeftI w6 g wr v ns) (L : Nat) (hy : a.eval y = .slice (some ⟨L, 0, none⟩) 1 1) (hL : wr.cell? ⟨L, 0, none⟩ = some (.string x)) (hn : ns.length ≤ 90000)
    (hQ : ∀ v' w', LeftI w6 g w' v' (ns ++ [x]) → wpList Tryd.prog ops Q rest (a.put o.dst v') w') : wpList Tryd.prog ops Q (o :: rest) a wr := by
  obtain ⟨i0, hi, hz0, hz1, hz2⟩ := info_parts infoS
  have hnews : ∀ j u, ([.string x] : List Value)[j]? = some u → wr.cell? ((⟨L, 0, none⟩ : Addr).add j) = some u := by
    intro j u hj
    match j, hj with
    | 0, hj =>
      have hadd : (⟨L, 0, none⟩ : Addr).add 0 = ⟨L, 0, none⟩ := by unfold Addr.add; split <;> simp_all
      rw [hadd, hL]
      simpa using hj
  have hlen : ∀ v' w' (B : Nat), w'.ownsRow B 9 1 v' (ns.length + 1) (ns.map Value.string ++ [.string x]) → Nm w' B v' (ns ++ [x]) := by
    intro v' w' B h
    unfold Nm
    rw [List.length_append, List.map_append]
    exact h
  have hlt := h.lt
  have hsz := h.below.size
  rcases h.row with ⟨rfl, rfl, h1⟩ | h1
  · refine wpList_append_keep wr hgd s y 39 39 ho g 9 9 i0 (.string ⟨#[]⟩) 16 Tryd.underlying39 Tryd.underlying39 hi hz0 hz1 hz2 rfl _ 0 _ hs (nm_empty h1) ⟨L, 0, none⟩ 1 1 [.string x] hy rfl hnews (by intro u hu; rw [List.mem_singleton] at hu; subst hu; rfl) (by unfold maxLen; omega) (by omega) (by omega) (by omega) (fun v' w' hown hk hv => ?_)
    obtain ⟨cur', k1, k2, _⟩ := hk.row g #[] _ rfl (fun h => h) h1
    have hc : cur' = #[] := Array.eq_empty_of_size_eq_zero k2
    rw [hc] at k1
    have hb : Below wr.heap.size wr w' := ⟨hk.os, hk.tape, hk.output, hk.size, fun b hb => by
      by_cases e : b = g
      · rw [e, k1, h1]
      · exact hk.block b hb (fun h => h) (by simp [Value.ownBlock]; exact fun e' => e e'.symm)⟩
    refine hQ v' w' ⟨h.below.trans (hb.mono hsz), hlt, .inr ?_⟩
    have hn2 := hlen v' w' g hown
    refine ⟨hn2.1, hn2.2.elim .inl fun ⟨g', cap, cur, e, h2, h3, h4, h5, h6, h7⟩ => .inr ⟨g', cap, cur, e, ?_, h3, h4, h5, h6, h7⟩⟩
    subst e
    rcases hv with hv | hv
    · have e1 : g' = g := by simpa [Value.ownBlock] using hv
      subst e1
      rw [k1] at h3
      injection h3 with h3
      injection h3 with h3
      rw [← h3] at h6
      have h8 : ([] ++ [x] : List ByteArray).length ≤ cap := h4
      simp at h6 h8
      omega
    · have e1 : g' = wr.heap.size := by simpa [Value.ownBlock] using hv
      omega
  · refine wpList_append_keep wr hgd s y 39 39 ho w6.heap.size 9 9 i0 (.string ⟨#[]⟩) 16 Tryd.underlying39 Tryd.underlying39 hi hz0 hz1 hz2 rfl v ns.length _ hs h1 ⟨L, 0, none⟩ 1 1 [.string x] hy rfl hnews (by intro u hu; rw [List.mem_singleton] at hu; subst hu; rfl) (by unfold maxLen; omega) (by omega) hsz (by omega) (fun v' w' hown hk hv => ?_)
    refine hQ v' w' ⟨⟨hk.os.trans h.below.os, hk.tape.trans h.below.tape, hk.output.trans h.below.output, Nat.le_trans hsz hk.size, fun b hb => (hk.block b (Nat.lt_of_lt_of_le hb hsz) (fun h => h) (fun e => by have := (h1.high e).1; omega)).trans (h.below.block b hb)⟩, hlt, .inr (hlen v' w' _ hown)⟩
end Scope
end Go.Proofs.YtkcadkjpneoobaaDoor
