import Derived.Test.YtkfkpjngiffamaaGreatDoorRows
import Derived.Test.YtkfkpjngiffamaaGreatDoorCards
import Derived.Test.YtkfkpjngiffamaaGreatDoorTie
import Derived.Test.YtkfkpjngiffamaaGreatDoorGC28
import Derived.WalkKit
import Derived.ProofKit
import Derived.OpenShut
import Derived.ShutString
import Derived.ChangeOld
import Derived.Below
import Derived.LaidMore
import Derived.SevenTiedAt
import Derived.Stop.Joined
namespace Go.Proofs.YtkfkpjngiffamaaGreatDoor.displayBrackets
open Go.ChangeShapes Go.WideShapes Go.ChangeAt Go.RowKit
open Go.ChangeMaps (open_string shut_string)
set_option linter.unusedVariables false

theorem own : ownKnob Tryz.prog.godebug = none := by kernel_rfl
theorem laidOut : laidOutB Tryz.prog = true := by kernel_rfl

theorem door_met (os : Os) (args : Array Value) : laidMetH Tryz.prog Rows.displayBracketsRow.laid ((World.doorLaid Tryz.prog 58 os).forCall (fun _ _ => 0) ⟨#[], args, []⟩).memory :=
 laidMetH_of_parts3 (fuel := 8) (laidMet_of_run' 8 (by kernel_rfl) (by kernel_rfl)) (by kernel_rfl) (by kernel_rfl)

theorem walk (a0 : Aterm.Hd) (v0v : Aterm.V) (l0 : Nat) (t0 : Aterm.AT) (w : World) (w0 : Aterm.AtIs w a0 v0v l0 t0) (hL : laidMet Tryz.prog Rows.displayBracketsRow.laid w) :
  Calls Tryz.prog 5 #[.agg #[.int .u8 a0.h.k, .int .u8 a0.h.op, .int .i64 a0.h.pl, .int .i64 a0.h.n, .string a0.h.name, .string a0.h.arg, .string a0.h.exn, .int .i64 a0.rho, .slice v0v.ra a0.rhos.length v0v.rc, .slice v0v.ea a0.e.length v0v.ec, .int .u8 a0.ty.h.k, .int .i64 a0.ty.h.r, .slice v0v.tea a0.ty.h.e.length v0v.tec, .slice v0v.tka a0.ty.ks.length v0v.tkc, .int .u8 a0.re.h.k, .int .i64 a0.re.h.r, .slice v0v.sea a0.re.h.e.length v0v.sec, .slice v0v.ska a0.re.ks.length v0v.skc, .slice v0v.ka l0 v0v.kc]] w fun e w' => e = .returned (.bool true) ∧ Below w.heap.size w w' :=
 Disp.bracketsLaw_walk a0 v0v l0 t0 w w0 (Disp.laid7 hL).1 (Disp.laid7 hL).2

set_option maxRecDepth 100000 in
theorem lifted (os : Os) (started : os.Started) (H : Type) (enc : TypeId × Value → H) :
  ReturnsInHanded {} Tryz.checked os 5 .any (fun w args => (Rows.displayBracketsSpec.pre enc Tryz.prog Tryz.f5 [] false w args ∧ laidMetH Tryz.prog Rows.displayBracketsRow.laid w) ∧ sizedMet enc Tryz.prog Tryz.f5 (OpenSpec.ofChange Rows.displayBracketsSpec) false w args) (Rows.displayBracketsSpec.post enc Tryz.prog Tryz.f5 false true false false) := by
 refine returnsInHanded_of_change_and (C := Tryz.checked) (X := fun w _ => laidMetH Tryz.prog Rows.displayBracketsRow.laid w) (fun _ _ _ hh h => h.of_heap hh) own started (by kernel_rfl) Tryz.func5
  (ChangeSpec.witness_shaped (enc := enc) (C := Tryz.checked) (os := os) (X := fun w _ => laidMetH Tryz.prog Rows.displayBracketsRow.laid w) false (World.doorLaid Tryz.prog 58 os) #[.agg #[.int .u8 0, .int .u8 0, .int .i64 0, .int .i64 0, .string ByteArray.empty, .string ByteArray.empty, .string ByteArray.empty, .int .i64 0, .slice none 0 0, .slice none 0 0, .int .u8 0, .int .i64 0, .slice none 0 0, .slice none 0 0, .int .u8 0, .int .i64 0, .slice none 0 0, .slice none 0 0, .slice none 0 0]] 8 rfl (World.shaped_of_RefB (by kernel_rfl) (by kernel_rfl)) (by kernel_rfl) (by kernel_rfl) (by kernel_rfl) (door_met os _)) ?_
 intro W base args ds gs before hval0 hW _ _ hL0 _
 have hL : laidMet Tryz.prog Rows.displayBracketsRow.laid W := by
  rw [MakeChecks.laidMetH_plain _ _ _ (by kernel_rfl)] at hL0
  exact hL0
 clear hL0
 have hval : ∀ (j : Nat) t v, Tryz.f5.params[j]? = some t → args[j]? = some v → Value.okWide Tryz.prog W .any base t v := hval0
 have hW' := hW
 obtain ⟨p, q, hA0, hV, rfl, hfz, hnd⟩ := hW
 have hA : DataW.TrodAll enc Tryz.prog W 0 (fun _ => true) true Tryz.f5.params.toList args.toList ds p := hA0
 rw [Tryz.params5] at hA hval
 obtain ⟨v0, vs0, d0, ds0, p0, q0, hargs, rfl, rfl, h0, r0⟩ := trodAll_cons hA
 obtain ⟨rfl, rfl, rfl⟩ := trodAll_nil r0
 obtain rfl : args = #[v0] := by cases args; simp_all
 obtain ⟨rfl, rfl⟩ := trodVars_none hV
 obtain ⟨cs0, rfl, _⟩ := okWide_struct Tryz.underlying31 (hval 0 31 v0 rfl rfl)
 have k0 := h0
 have lt0 : ∀ x ∈ p0, x.block < W.heap.size := by obtain ⟨m, hm⟩ := k0; exact DataW.trod_lt m _ _ _ hm
 obtain ⟨a0, v0v, l0, t0, rfl, w0⟩ : ∃ h v l t, cs0 = (Aterm.acells h v l).toArray ∧ Aterm.AtIs W h v l t := by
  obtain ⟨fuel, hf⟩ := h0
  exact Aterm.open_at hf
 clear hA0 hval0
 refine (walk a0 v0v l0 t0 W w0 hL).mono fun e W' ⟨he, bel⟩ => ?_
 subst he
 exact ⟨_, rfl, _, _, _, [], _, [], hW', trodAll_mk1 (shut_bool Tryz.underlying4 _), (trodAll_cons_mk (Below.trod laidOut (by kernel_rfl) (of_decide_eq_true (by kernel_rfl)) k0 bel lt0) trodAll_mk0), rfl, bel.frame _, fun h => by cases h⟩

theorem over : Rows.displayBracketsRow.holds Tryz.pinned (OpenSpec.ofChange Rows.displayBracketsSpec) :=
 OpenClaim.holds_of_wide 5 Tryz.f5 rfl rfl rfl rfl rfl rfl rfl ⟨rfl, rfl, rfl, rfl, rfl⟩ rfl rfl rfl rfl rfl (by kernel_rfl) Tryz.func5 (by kernel_rfl)
  (of_decide_eq_true (by kernel_rfl)) (by unfold Func.isWrapper; first | (rw [if_pos (by decide +kernel)]; kernel_rfl) | (rw [if_neg (by decide +kernel)]; exact ⟨rfl, rfl⟩))
  (fun os started H enc _ => lifted os started H enc)

theorem proved : Rows.DisplayBracketsCardSaid :=
 Claim7.holds_tied_plain_at .later [] Rows.displayBracketsCard.laidKinds true Rows.displayBracketsCard.stood.harness Rows.displayBracketsCard.stood.looks
  over (fun _ h => by cases h) (by kernel_rfl) (fun _ h => by cases h) displayBrackets_row_tie rfl ⟨rfl, rfl⟩ (by kernel_rfl) rfl
  (fun f fn hf hfn => by
   obtain rfl : f = 5 := Option.some.inj ((show Tryz.prog.funcNamed "enclave/enclavelaw14.DisplayBrackets" = some 5 by kernel_rfl).symm.trans hf) |>.symm
   obtain rfl : fn = Tryz.f5 := (Option.some.inj (Tryz.func5.symm.trans hfn)).symm
   exact ⟨by kernel_rfl, fun j t ht => by
    have hall : (Tryz.f5.params.all fun u => !Tryz.prog.wantsStandIn u) = true := by kernel_rfl
    have hm : t ∈ Tryz.f5.params := Array.mem_of_getElem? ht
    exact (show Tryz.prog.wantsStandIn t = false by simpa using Array.all_eq_true'.1 hall t hm)⟩)
  (by kernel_rfl)
#print axioms proved
end Go.Proofs.YtkfkpjngiffamaaGreatDoor.displayBrackets
