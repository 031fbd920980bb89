/- A row of atoms of one's own is made compact. -/
import Derived.Test.YtggabjmfdnfckaaGreatDoorEfSort
import Derived.Lib.SlicesCompact
import Derived.Lib.SliceRun
import Derived.Deep.LoopGhost
import Derived.Shelf.SlicesE.Kit
import Derived.Shelf.SlicesE.Equal
import Derived.Shelf.SlSortFuncK.RowK2
namespace Go.Proofs.YtggabjmfdnfckaaGreatDoor
open Go.RowKit Go.Sort Go.Shelf Go.Lib
set_option linter.unusedVariables false
set_option linter.unusedSimpArgs false
namespace Effect

theorem eqAt : EqlAt Tryz.prog 47 (fun a => .agg (enc a).toArray) (fun a b => decide (a = b)) := by
  refine ⟨fun a b w => ?_, GuardAt.agg _ (by kernel_rfl)⟩
  have u5 := Tryz.underlying5
  have u3 := Tryz.underlying3
  have u9 := Tryz.underlying9
  have hS : Tryz.prog.underlying 47 = some (.struct (Tryz.prog.fieldsOf 47)) := by kernel_rfl
  have hp : Tryz.prog.stoodInHeld 47 = false := by kernel_rfl
  obtain ⟨k, r, x⟩ := a
  obtain ⟨k', r', x'⟩ := b
  simp only [enc]
  rw [run_eql_struct, show (10000 : Nat) = 9999 + 1 from rfl, run_equalIn_agg w 9999 47 _ _ hS hp]
  simp only [Program.fieldsOf, Tryz.underlying47]
  go_simp
  have hx : x.toList = x'.toList ↔ x = x' := ⟨toList_inj, fun h => by rw [h]⟩
  by_cases h1 : k = k' <;> by_cases h2 : r = r' <;> by_cases h3 : x = x' <;> simp [h1, h2, h3, hx]
theorem neAt : NeqAt Tryz.prog 47 (fun a => .agg (enc a).toArray) (fun a b => decide (a = b)) := by
  refine ⟨fun a b w => ?_, GuardAt.agg _ (by kernel_rfl)⟩
  have h := eqAt.1 a b w
  show (binOp .neq 47 (.agg (enc a).toArray) (.agg (enc b).toArray)).run Tryz.prog w = _
  change (binOp .eql 47 (.agg (enc a).toArray) (.agg (enc b).toArray)).run Tryz.prog w = _ at h
  rw [run_eql_struct] at h
  rw [run_neq_struct]
  generalize (Op.equalIn 10000 47 (.agg (enc a).toArray) (.agg (enc b).toArray)).run Tryz.prog w = R at *
  cases R with
  | ok b w1 => simp [Result.andThen] at h ⊢; obtain ⟨h1, h2⟩ := h; subst h1 h2; simp
  | halt a b => simp [Result.andThen] at h
theorem three {w : World} {g : Nat} {d : Array At} (h : HoldsK enc 3 w g 0 d) {i : Nat} (hi : i < d.size) : (w.cell? ⟨g, i * 3, none⟩ = some (.int .u8 d[i]!.k) ∧ w.cell? ⟨g, i * 3 + 1, none⟩ = some (.int .i64 d[i]!.r) ∧ w.cell? ⟨g, i * 3 + 2, none⟩ = some (.string d[i]!.x)) ∧ (w.frozen? ⟨g, i * 3, none⟩ = false ∧ w.frozen? ⟨g, i * 3 + 1, none⟩ = false ∧ w.frozen? ⟨g, i * 3 + 2, none⟩ = false) := by
  have h0 := h.cell (c := 0) hi (by omega)
  have h1 := h.cell (c := 1) hi (by omega)
  have h2 := h.cell (c := 2) hi (by omega)
  simp only [Nat.zero_add, Nat.add_zero] at h0 h1 h2
  exact ⟨⟨h0.1, h1.1, h2.1⟩, h0.2, h1.2, h2.2⟩
def zA : At := ⟨0, 0, ⟨#[]⟩⟩
theorem zcells (n : Nat) : (Builtin.zeroCells (Value.agg #[.int .u8 0, .int .i64 0, .string ⟨#[]⟩]).cells n).toList = flat (List.replicate n zA) := by
  apply List.ext_getElem?
  intro t
  by_cases ht : t < n * 3
  · have hz : (List.replicate n zA).length = n := by simp
    have h := flat_get (List.replicate n zA) (t / 3) (by rw [hz]; omega) (t % 3) (by omega)
    rw [show t / 3 * 3 + t % 3 = t by omega] at h
    rw [h]
    have e : aget (List.replicate n zA) (t / 3) = zA := by
      unfold aget
      rw [List.getD_eq_getElem?_getD, List.getElem?_replicate, if_pos (by omega)]; rfl
    rw [e]
    simp only [Builtin.zeroCells, Value.cells]
    rcases (by omega : t % 3 = 0 ∨ t % 3 = 1 ∨ t % 3 = 2) with q | q | q <;> simp [q, enc, zA, ht]
  · rw [List.getElem?_eq_none (by simp [Builtin.zeroCells, Value.cells]; omega), List.getElem?_eq_none (by rw [flat_len]; simp; omega)]
theorem clear_rows (w : World) (ty : TypeId) (g o n c : Nat) (hn : 0 < n) (hc : ∀ j, j < n * 3 → (w.cell? ⟨g, o + j, none⟩).isSome = true) (hf : ∀ j, j < n * 3 → w.frozen? ⟨g, o + j, none⟩ = false) :
    (Builtin.clear_ #[25] ty #[.slice (some ⟨g, o, none⟩) n c]).run Tryz.prog w = .ok (.tuple #[]) (w.setCells g o (flat (List.replicate n zA))) := by
  have hz := zcells n
  have hl : (flat (List.replicate n zA)).length = n * 3 := by rw [flat_len]; simp
  have h1 : ∀ v ∈ flat (List.replicate n zA), v.oneCell' = true := fun v hv => by
    unfold flat at hv
    obtain ⟨a, _, ha⟩ := List.mem_flatMap.1 hv
    simp [enc] at ha
    rcases ha with rfl | rfl | rfl <;> rfl
  have hst := run_storeCells_cells (P := Tryz.prog) g o (flat (List.replicate n zA)) 0 w (by rw [hl]; simpa using hc) (by rw [hl]; simpa using hf) h1
  simp only [Nat.add_zero] at hst
  have hv := fun w => Tryz.zeroValue47 w
  obtain ⟨m, rfl⟩ : ∃ m, n = m + 1 := ⟨n - 1, by omega⟩
  simp [Builtin.clear_, run_underlying Tryz.underlying25, hv, hz, hst]
theorem put_set (w : World) (g : Nat) (d : Array At) (i : Nat) (x : At) (hi : i < d.size) : (((putRowK enc 3 w g 0 d).setCell ⟨g, i * 3, none⟩ (.int .u8 x.k)).setCell ⟨g, i * 3 + 1, none⟩ (.int .i64 x.r)).setCell ⟨g, i * 3 + 2, none⟩ (.string x.x) = putRowK enc 3 w g 0 (d.setIfInBounds i x) := by
  have h := setCells_putRow w g 0 (enc x) (i * 3) (flatK enc 3 d) (by rw [size_flatK]; show i * 3 + 3 ≤ _; omega)
  rw [Nat.zero_add] at h
  have e : setMany (flatK enc 3 d) (i * 3) (enc x) = flatK enc 3 (d.setIfInBounds i x) := by
    refine ext_get! (by simp) fun t ht => ?_
    have ht' : t < d.size * 3 := by simpa using ht
    rw [get_setMany _ _ _ t (by simpa using ht'), get_flatK _ _ _ t ht', get_flatK _ _ _ t (by simpa using ht')]
    show (if i * 3 ≤ t ∧ t < i * 3 + 3 then _ else _) = _
    by_cases a : t / 3 = i
    · rw [if_pos ((blk_iff 3 i t (by omega)).2 a), a, getElem!_set_same d i x hi, show t - i * 3 = t % 3 by omega]
    · rw [if_neg (fun h => a ((blk_iff 3 i t (by omega)).1 h)), getElem!_set_other d i (t / 3) x a]
  rw [e] at h
  exact h
theorem comp_end {w : World} {B g c n q : Nat} {cur : Array Value} {d dk : Array At} {K : Nat} (hds : d.size = n) (hb : B ≤ g) (hg : w.heap[g]? = some (.cells cur 47 (0, 0))) (h1 : n ≤ c) (h2 : c ≤ maxLen) (h3 : cur.size = c * 3) (hI : CompInv d n K dk) :
    ((putRowK enc 3 (Sort.ahead w q) g 0 dk).setCells g (K * 3) (flat (List.replicate (n - K) zA))).ownsRow B 47 3 (.slice (some ⟨g, 0, none⟩) K c) K (flat (compactUpTo d n)) ∧ w.grownBy ((putRowK enc 3 (Sort.ahead w q) g 0 dk).setCells g (K * 3) (flat (List.replicate (n - K) zA))) (some g) := by
  have hK := hI.lt
  have hs := hI.size
  have h := setCells_putRow (Sort.ahead w q) g 0 (flat (List.replicate (n - K) zA)) (K * 3) (flatK enc 3 dk) (by rw [size_flatK, flat_len, List.length_replicate]; omega)
  rw [Nat.zero_add] at h
  have h' : (putRowK enc 3 (Sort.ahead w q) g 0 dk).setCells g (K * 3) (flat (List.replicate (n - K) zA)) = grow (putRow id (Sort.ahead w q) g 0 (setMany (flatK enc 3 dk) (K * 3) (flat (List.replicate (n - K) zA)))) #[] := by rw [grow_empty]; exact h
  rw [h']
  refine ⟨⟨by rw [flat_len, hI.len], .inr ⟨g, c, _, rfl, hb, heap_sortedV _ hg, by omega, h2, by simp [putCells, h3], ?_⟩⟩, grownBy_sortedV _⟩
  apply List.ext_getElem?
  intro t
  by_cases ht : t < K * 3
  · rw [List.getElem?_take_of_lt ht, Array.getElem?_toList]
    have hf := flat_get (compactUpTo d n) (t / 3) (by rw [hI.len]; omega) (t % 3) (by omega)
    rw [show t / 3 * 3 + t % 3 = t by omega] at hf
    rw [hf]
    have hlo := hI.low (t / 3) (by omega)
    have e1 : aget (compactUpTo d n) (t / 3) = dk[t / 3]! := by
      have := aget_at (l := compactUpTo d n) (i := t / 3) (by rw [hI.len]; omega)
      rw [hlo] at this
      exact (Option.some.inj this).symm
    rw [e1]
    have e2 : (setMany (flatK enc 3 dk) (K * 3) (flat (List.replicate (n - K) zA)))[t]! = (enc dk[t / 3]!)[t % 3]! := by
      rw [get_setMany _ _ _ t (by rw [size_flatK]; omega), if_neg (by omega), get_flatK _ _ _ _ (by omega)]
    have hlen3 : t % 3 < (enc dk[t / 3]!).length := Nat.mod_lt t (by decide : 3 > 0)
    rw [List.getElem?_eq_getElem hlen3, ← getElem!_pos (enc dk[t / 3]!) (t % 3) hlen3, ← e2]
    simp [putCells, show t < cur.size by omega, show t < dk.size * 3 by omega]
  · rw [List.getElem?_take_eq_none (by omega), List.getElem?_eq_none (by rw [flat_len, hI.len]; omega)]
end Effect
end Go.Proofs.YtggabjmfdnfckaaGreatDoor
