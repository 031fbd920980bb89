/- The program's reading of a text: what was thrown is caught (programs). -/
import Derived.Test.YtkcadkjpneoobaaGreatDoorGParseH
import Derived.Defers
import Derived.Recover
namespace Go.Proofs.YtkcadkjpneoobaaGreatDoor
open Go.RowKit
set_option linter.unusedVariables false
set_option linter.unusedSimpArgs false
namespace Parse
open Token (Tok tel ToksAt)
open Term (Tm Hd TmIs Kids ret_bool ret_i64 Reads veil Flat tcells)

theorem catchP_idle (p q : Addr) (w : World) :
    CallsD Tryz.prog 42 #[.pointer (some p), .pointer (some q)] .returning w fun e u' w' => e = .returned (.tuple #[]) ∧ u' = .returning ∧ w' = w := by
  refine callsD_of_wpS Tryz.func42 rfl fun c₀ cs hu => ?_
  apply wpS_seq
  apply wpS_region
  simp [wpOpsS, go_sem, recoverD, hu, Tryz.ntmps42, Exit.thenS]
  refine wpS_of_wp ?_
  have hnil : ∀ w : World, (binOp BinOp.eql 20 .nilIface .nilIface).run Tryz.prog w = .ok (.bool true) w := fun _ => by kernel_rfl
  go_wp2
  cases c₀
  simp_all [bodyPostS, results, Tryz.results42]

set_option maxRecDepth 100000 in
set_option maxHeartbeats 1600000 in
theorem catchP_stray (N1 N2 : Nat) (t : Tok) (x y : Int) (w : World) (hp : w.cell? ⟨N1, 0, none⟩ = some (.int .i64 x)) (hq : w.cell? ⟨N2, 0, none⟩ = some (.int .i64 y)) (hp0 : w.frozen? ⟨N1, 0, none⟩ = false) (hq0 : w.frozen? ⟨N2, 0, none⟩ = false) (hpq : ¬ N1 = N2) (hqp : ¬ N2 = N1) (hpl : N1 < w.heap.size) (hql : N2 < w.heap.size) :
    CallsD Tryz.prog 42 #[.pointer (some ⟨N1, 0, none⟩), .pointer (some ⟨N2, 0, none⟩)] (.panicking [{ v := strayV t, recovered := false }]) w fun e u' w' => e = .returned (.tuple #[]) ∧ u' = .panicking [{ v := strayV t, recovered := true }] ∧ w' = ((w.setCell ⟨N1, 0, none⟩ (.int .i64 t.a)).setCell ⟨N2, 0, none⟩ (.int .i64 2)).alloc (.cells #[.int .u8 t.k, .string t.s, .int .i64 t.a] 84) := by
  refine callsD_of_wpS Tryz.func42 rfl fun c₀ cs hu => ?_
  unfold strayV at hu ⊢
  apply wpS_seq
  apply wpS_region
  simp [wpOpsS, go_sem, recoverD, hu, Tryz.ntmps42, Exit.thenS]
  refine wpS_of_wp ?_
  have hnil : ∀ w : World, (binOp BinOp.eql 20 (.iface 84 (.agg #[.int .u8 t.k, .string t.s, .int .i64 t.a])) .nilIface).run Tryz.prog w = .ok (.bool false) w := fun _ => by kernel_rfl
  have hta : ∀ w : World, (Instr.typeAssert (.iface 84 (.agg #[.int .u8 t.k, .string t.s, .int .i64 t.a])) 20 84 true).run Tryz.prog w = .ok (.tuple #[.agg #[.int .u8 t.k, .string t.s, .int .i64 t.a], .bool true]) w := fun _ => by kernel_rfl
  go_wp2
  simp [bodyPostS, results, Tryz.results42]
end Parse
end Go.Proofs.YtkcadkjpneoobaaGreatDoor
