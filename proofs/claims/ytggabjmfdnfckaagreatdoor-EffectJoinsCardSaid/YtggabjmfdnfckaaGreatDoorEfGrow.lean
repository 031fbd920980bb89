/- A row of one's own with room for n. -/
import Derived.Test.YtggabjmfdnfckaaGreatDoorEfOf
import Derived.Lib.AppendZerosOnto
import Derived.Maps.AppendAt
namespace Go.Proofs.YtggabjmfdnfckaaGreatDoor
open Go.RowKit Go.Sort Go.Shelf Go.Lib
set_option linter.unusedVariables false
set_option linter.unusedSimpArgs false
namespace Effect

/-- An append that is known. -/
theorem wpList_append_made {P : Program} {w w' : World} {ops : Array Oper} {rest : List Oper} {o : Oper} {a : Act} {Q : Exit → Act → World → Prop} (hgd : o.guard = none) (s x : Operand) (t t2 : TypeId)
    (ho : o.op = .call { callee := .builtin .append, args := #[s, x], argTypes := #[t, t2] }) (v xv r : Value) (hs : a.eval s = v) (hx : a.eval x = xv)
    (hr : ∀ ty, (Builtin.append_ #[t, t2] ty #[v, xv]).run P w = .ok r w') (h : wpList P ops Q rest (a.put o.dst r) w') : wpList P ops Q (o :: rest) a w := by
  refine wpList_plain hgd fun K hK => ?_
  unfold Oper.wp execOp
  simp only [ho, resolve, invoke, builtin, Sem.run_bind, Sem.run_pure, Result.andThen_ok, List.map_toArray, List.map_cons, List.map_nil, hs, hx, hr]
  exact hK _ _ h
theorem grow_zeros (n : Nat) (w : World) (h0 : 0 < n) (hn : n ≤ 100000) :
    ∃ c cur, (∀ ty, (Builtin.append_ #[25, 3] ty #[.slice none 0 0, .int .i64 (n : Int)]).run Tryz.prog w = .ok (.slice (some ⟨w.heap.size, 0, none⟩) n c) (w.drew.alloc (.cells cur 47))) ∧ cur.size = c * 3 ∧ n ≤ c ∧ c ≤ maxLen := by
  obtain ⟨i0, hi, hz0, hz2, hz3⟩ := info_parts
  have h := fun ty => run_append_grow_zeros (P := Tryz.prog) w 25 3 ty 47 i0 _ .i64 .i64 Tryz.underlying25 Tryz.underlying3 hi hz0 none 0 0 [] (by rw [hz2]; exact run_firstCells_none w.drew 3 0 0 0) n h0 (by omega) (by omega) (by omega) (by rw [hz3]; omega) (by
    rw [hz3, Nat.zero_add, nextslicecap_zero h0]; omega)
  simp only [Nat.zero_add] at h
  have hge := grownCap_ge w n 0 47
  have hcm := grownCap_le_maxLen w n 0 47 (by unfold maxLen; omega)
  refine ⟨_, _, h, ?_, hge, hcm⟩
  simp only [Array.size_append, size_zeroCells, List.size_toArray, List.length_nil, Value.cells]
  show 0 + n * 3 + _ * 3 = _
  omega
set_option maxRecDepth 100000 in
set_option maxHeartbeats 6400000 in
theorem grow_walk (n : Nat) (w : World) (hn : n ≤ 100000) : Calls Tryz.prog 48 #[.slice none 0 0, .int .i64 (n : Int)] w fun e w' => ∃ v, e = .returned v ∧ Row w.heap.size w' v [] ∧ Below w.heap.size w w' := by
  by_cases h0 : n = 0
  · subst h0
    go_enter Tryz.func48, Tryz.ntmps48
    go_wp2_with (fail)
    go_ret
    exact ⟨_, rfl, Row.nil _ _, Below.refl _ _⟩
  · obtain ⟨c, cur, hg, h1, h2, h3⟩ := grow_zeros n w (by omega) hn
    have hpos : (0 : Int) < n := by omega
    have HG := Lib.hid hg
    clear hg
    go_enter Tryz.func48, Tryz.ntmps48
    go_wp2_with (at_builtin; refine wpList_append_made rfl (.tmp 20) (.tmp 21) 25 3 rfl (.slice none 0 0) (.int .i64 (n : Int)) _ rfl rfl HG.out ?_)
    go_ret
    refine ⟨_, rfl, ⟨rfl, .inr ⟨w.heap.size, c, cur, rfl, Nat.le_refl _, heap_alloc_new w.drew _, Nat.zero_le _, h3, h1, rfl⟩⟩, (Below.refl _ _).drew.alloc (Nat.le_refl _) _⟩
end Effect
end Go.Proofs.YtggabjmfdnfckaaGreatDoor
