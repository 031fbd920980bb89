/-The walk of the document's Same of terms with regions. The walks of the document's Own and Binds of terms with regions. The walks of the document's in and plain. Terms: what the walks share. The walks of the document's kids of a kind, and of whether a text fits. The walk of whether a node alone may be, by the document. The walk of the document's row of all nodes. May a term be: mathematics. May a term with regions be: mathematics. The program's way through all nodes of terms with regions: what may be turned, and what is asked of its closure. (Written by wip/tools/atfold.py.) -/
import Derived.Test.YtolpdhkgkjnbfaaGreatDoorGC05
import Derived.Test.YtolpdhkgkjnbfaaGreatDoorGC06
import Derived.StillTailTactics
import Derived.Test.YtolpdhkgkjnbfaaGreatDoorGC04
import Derived.Test.YtolpdhkgkjnbfaaGreatDoorGC00
import Derived.LoopTactic
import Derived.Outline
import Derived.Lib.Hide
import Derived.IntWalk
import Derived.Test.YtolpdhkgkjnbfaaGreatDoorGC01
import Derived.Deep.QuietTactic
import Derived.BigQuiet
import Derived.Deep.Cut
import Derived.Deep.CutRange
import Derived.Deep.RegionHeld3
import Derived.OwnWalk
import Derived.Laws.AppendOwn
import Derived.Deep.WholeRow
namespace Go.Proofs.YtolpdhkgkjnbfaaGreatDoor
open Go.RowKit
set_option linter.unusedVariables false
set_option linter.unusedSimpArgs false
namespace Aterm
open Effect (RdI nget nget_at nget_mem ret_bool)
open Rt (box_new box_at below_then)

theorem sameH_eq (a b : Hd) : sameH a b = (headB a.h b.h && decide (a.rho = b.rho) && decide (a.rhos = b.rhos) && (Effect.withinB a.e b.e && Effect.withinB b.e a.e) && Rt.sameT a.ty b.ty && Rt.sameT a.re b.re) := by
  unfold sameH headB
  rw [Effect.same_iff]
theorem sameK_step (ts us : List AT) (j : Nat) (h : j < ts.length) (h' : j < us.length) : sameK (ts.drop j) (us.drop j) = (sameT (tget ts j) (tget us j) && sameK (ts.drop (j + 1)) (us.drop (j + 1))) := by
  rw [drop_tget ts j h, drop_tget us j h', sameK_cons]
theorem small_ok {h : Hd} {n : Nat} (hs : smallB h n = true) : h.rhos.length ≤ 50 ∧ (h.e.length ≤ 100 ∧ ∀ x ∈ h.e, x.x.size ≤ 100) ∧ Rt.allT (Rt.effB 100000) h.ty = true ∧ Rt.allT (Rt.effB 100000) h.re = true := by
  unfold smallB at hs
  obtain ⟨h1, h2, h3, h4⟩ := long_no (by simpa using hs)
  have up : ∀ t : Rt.RT, Rt.greatT t = false → Rt.allT (Rt.effB 100000) t = true := fun t ht =>
    (Rt.all_imp (fun h n hh => Rt.eff_iff.2 (by have := Rt.eff_iff.1 hh; exact ⟨by omega, fun x hx => by have := this.2 x hx; omega⟩)) _).1 t (Nat.le_refl _) (Rt.small_eff ht).2
  exact ⟨h1.2.2.2, Effect.great_no h2, up _ h3, up _ h4⟩

/-- A term that is loaded, where nothing is written. -/
theorem still_load {ops : Array Oper} {rest : List Oper} {op : Oper} {a : Act} {w : World} {Q : Act → Prop} (hgd : op.guard = none) (x : Operand) (ho : op.op = .load 31 x)
    (b o : Nat) (hx : a.eval x = .pointer (some ⟨b, o, none⟩)) {h : Hd} {v : V} {l : Nat} (hr : w.rangeAt b o (acells h v l))
    (k : wpStill Tryz.prog ops w Q rest (a.put op.dst (.agg #[.int .u8 h.h.k, .int .u8 h.h.op, .int .i64 h.h.pl, .int .i64 h.h.n, .string h.h.name, .string h.h.arg, .string h.h.exn, .int .i64 h.rho, .slice v.ra h.rhos.length v.rc, .slice v.ea h.e.length v.ec, .int .u8 h.ty.h.k, .int .i64 h.ty.h.r, .slice v.tea h.ty.h.e.length v.tec, .slice v.tka h.ty.ks.length v.tkc, .int .u8 h.re.h.k, .int .i64 h.re.h.r, .slice v.sea h.re.h.e.length v.sec, .slice v.ska h.re.ks.length v.skc, .slice v.ka l v.kc]))) : wpStill Tryz.prog ops w Q (op :: rest) a := by
  have hw : Region.wanted op (yielded ops a.tmps) = true := by simp [Region.wanted, hgd]
  refine wpStill_step (fun K hK => ?_)
  rw [if_pos hw]
  unfold Oper.still execOp
  simp only [ho, hx, Instr.loadAt, Instr.sureAddr, Sem.run_bind, Sem.run_pure, Result.andThen_ok, run_loadVar_mid w b o 31 (acells h v l) _ hr Tryz.underlying31 rfl atInfo]
  exact ⟨rfl, hK _ k⟩

set_option maxRecDepth 100000 in
set_option maxHeartbeats 12800000 in
theorem refSame_walk : ∀ (m : Nat) (t u : AT) (h h' : Hd) (v v' : V) (l l' : Nat) (w : World), wt t ≤ m → AtIs w h v l t → AtIs w h' v' l' u → allT smallB t = true → allT smallB u = true →
    Calls Tryz.prog 10 #[.agg #[.int .u8 h.h.k, .int .u8 h.h.op, .int .i64 h.h.pl, .int .i64 h.h.n, .string h.h.name, .string h.h.arg, .string h.h.exn, .int .i64 h.rho, .slice v.ra h.rhos.length v.rc, .slice v.ea h.e.length v.ec, .int .u8 h.ty.h.k, .int .i64 h.ty.h.r, .slice v.tea h.ty.h.e.length v.tec, .slice v.tka h.ty.ks.length v.tkc, .int .u8 h.re.h.k, .int .i64 h.re.h.r, .slice v.sea h.re.h.e.length v.sec, .slice v.ska h.re.ks.length v.skc, .slice v.ka l v.kc], .agg #[.int .u8 h'.h.k, .int .u8 h'.h.op, .int .i64 h'.h.pl, .int .i64 h'.h.n, .string h'.h.name, .string h'.h.arg, .string h'.h.exn, .int .i64 h'.rho, .slice v'.ra h'.rhos.length v'.rc, .slice v'.ea h'.e.length v'.ec, .int .u8 h'.ty.h.k, .int .i64 h'.ty.h.r, .slice v'.tea h'.ty.h.e.length v'.tec, .slice v'.tka h'.ty.ks.length v'.tkc, .int .u8 h'.re.h.k, .int .i64 h'.re.h.r, .slice v'.sea h'.re.h.e.length v'.sec, .slice v'.ska h'.re.ks.length v'.skc, .slice v'.ka l' v'.kc]] w fun e w' => e = .returned (.bool (sameT t u)) ∧ Below w.heap.size w w' := by
  intro m
  induction m with
  | zero => intro t u h h' v v' l l' w hm; have := wt_pos t; omega
  | succ m ih =>
    intro t u h h' v v' l l' w hm hT hU hi hi'
    have hs0 := sameT_eq t u
    rw [hT.head, hU.head, hT.len, hU.len, sameH_eq] at hs0
    rw [allT_eq, Bool.and_eq_true, hT.head] at hi
    rw [allT_eq, Bool.and_eq_true, hU.head] at hi'
    obtain ⟨r1, ⟨e1, _⟩, y1, z1⟩ := small_ok hi.1
    obtain ⟨r2, ⟨e2, _⟩, y2, z2⟩ := small_ok hi'.1
    have hlc := (capA hT).1
    have hlc' := (capA hU).1
    have hei := fun W (hb : Below w.heap.size w W) => equalInts_walk (c := v.rc) (d := v'.rc) (hT.ok.rhos.below hb) (hU.ok.rhos.below hb) (by omega) (by omega)
    have hw1 := fun W (hb : Below w.heap.size w W) => Effect.refWithin_walk (c := v.ec) (d := v'.ec) (hT.ok.eff.below hb).rd (hU.ok.eff.below hb).rd (by omega) (by omega)
    have hw2 := fun W (hb : Below w.heap.size w W) => Effect.refWithin_walk (c := v'.ec) (d := v.ec) (hU.ok.eff.below hb).rd (hT.ok.eff.below hb).rd (by omega) (by omega)
    have hty := fun W (hb : Below w.heap.size w W) => Rt.refSame_walk _ _ _ _ _ _ _ _ _ _ _ _ _ _ _ _ _ W (Nat.le_refl _) (hT.ok.ty.below hb) (hU.ok.ty.below hb) y1 y2
    have hre := fun W (hb : Below w.heap.size w W) => Rt.refSame_walk _ _ _ _ _ _ _ _ _ _ _ _ _ _ _ _ _ W (Nat.le_refl _) (hT.ok.re.below hb) (hU.ok.re.below hb) z1 z2
    have HS := Lib.hid hs0; have HEI := Lib.hid hei; have HW1 := Lib.hid hw1; have HW2 := Lib.hid hw2; have HTY := Lib.hid hty; have HRE := Lib.hid hre
    have HIK := Lib.hid (And.intro hi.2 hi'.2); have HT := Lib.hid hT; have HU := Lib.hid hU; have IH := Lib.hid ih; have HM := Lib.hid hm
    clear hs0 hei hw1 hw2 hty hre hi hi' hT hU ih hm r1 e1 y1 z1 r2 e2 y2 z2
    cases hq : headB h.h h'.h
    · have HR := Lib.hid (show sameT t u = false by rw [HS.out, hq]; simp)
      have H1 := Lib.hid hq
      clear hq
      go_enter Tryz.func10, Tryz.ntmps10
      go_upto_region 1 with (fail)
      obtain ⟨W0, hW0⟩ : ∃ W0, W0 = (w.alloc (.cells #[.int .u8 h.h.k, .int .u8 h.h.op, .int .i64 h.h.pl, .int .i64 h.h.n, .string h.h.name, .string h.h.arg, .string h.h.exn, .int .i64 h.rho, .slice v.ra h.rhos.length v.rc, .slice v.ea h.e.length v.ec, .int .u8 h.ty.h.k, .int .i64 h.ty.h.r, .slice v.tea h.ty.h.e.length v.tec, .slice v.tka h.ty.ks.length v.tkc, .int .u8 h.re.h.k, .int .i64 h.re.h.r, .slice v.sea h.re.h.e.length v.sec, .slice v.ska h.re.ks.length v.skc, .slice v.ka l v.kc] 31)).alloc (.cells #[.int .u8 h'.h.k, .int .u8 h'.h.op, .int .i64 h'.h.pl, .int .i64 h'.h.n, .string h'.h.name, .string h'.h.arg, .string h'.h.exn, .int .i64 h'.rho, .slice v'.ra h'.rhos.length v'.rc, .slice v'.ea h'.e.length v'.ec, .int .u8 h'.ty.h.k, .int .i64 h'.ty.h.r, .slice v'.tea h'.ty.h.e.length v'.tec, .slice v'.tka h'.ty.ks.length v'.tkc, .int .u8 h'.re.h.k, .int .i64 h'.re.h.r, .slice v'.sea h'.re.h.e.length v'.sec, .slice v'.ska h'.re.ks.length v'.skc, .slice v'.ka l' v'.kc] 31) := ⟨_, rfl⟩
      have hbx1 : Box W0 w.heap.size h v l := by rw [hW0]; exact (box_of (w := w) (h := h) (v := v) (l := l)).below (box_new _)
      have hbx2 : Box W0 (w.heap.size + 1) h' v' l' := by
        rw [hW0]
        have := box_of (w := w.alloc (.cells #[.int .u8 h.h.k, .int .u8 h.h.op, .int .i64 h.h.pl, .int .i64 h.h.n, .string h.h.name, .string h.h.arg, .string h.h.exn, .int .i64 h.rho, .slice v.ra h.rhos.length v.rc, .slice v.ea h.e.length v.ec, .int .u8 h.ty.h.k, .int .i64 h.ty.h.r, .slice v.tea h.ty.h.e.length v.tec, .slice v.tka h.ty.ks.length v.tkc, .int .u8 h.re.h.k, .int .i64 h.re.h.r, .slice v.sea h.re.h.e.length v.sec, .slice v.ska h.re.ks.length v.skc, .slice v.ka l v.kc] 31)) (h := h') (v := v') (l := l') (ty := 31)
        rwa [World.size_alloc] at this
      have hb0 : Below w.heap.size w W0 := by rw [hW0]; exact (box_new _).trans ((box_new _).mono (by simp))
      rw [← hW0]
      clear hW0
      generalize hN2 : w.heap.size + 1 = N2 at hbx2 ⊢
      generalize hN1 : w.heap.size = N1 at hbx1 ⊢
      have HB0 := Lib.hid hb0; have HX1 := Lib.hid hbx1; have HX2 := Lib.hid hbx2; have HC0 := Lib.hid (Below.refl W0.heap.size W0)
      clear hb0 hN1 hN2 hbx1 hbx2
      obtain ⟨a0, a1, a2, a3, a4, a5, a6, a7, a8, a9, a10, a11, a12, a13, a14, a15, a16, a17, a18⟩ := HX1.out.below HC0.out
      obtain ⟨d0, d1, d2, d3, d4, d5, d6, d7, d8, d9, d10, d11, d12, d13, d14, d15, d16, d17, d18⟩ := HX2.out.below HC0.out
      clear a9 a10 a11 a12 a13 a14 a15 a16 a17 a18 d9 d10 d11 d12 d13 d14 d15 d16 d17 d18
      go_wp2_with (refine neq_hd rfl _ _ _ rfl h.h h'.h rfl rfl ?_; rw [H1.out])
      go_ret
      exact ⟨ret_bool HR.out.symm, HB0.out⟩
    have H1 := Lib.hid hq
    have hs1 := HS.out; rw [hq] at hs1; simp only [Bool.true_and] at hs1
    clear hq HS
    have HS := Lib.hid hs1; clear hs1
    by_cases hrr : h.rho = h'.rho
    case neg =>
      have HR := Lib.hid (show sameT t u = false by rw [HS.out, decide_eq_false hrr]; simp)
      have n1 : (h.rho == h'.rho) = false := by simpa using hrr
      have n2 : (h.rho != h'.rho) = true := by simpa using hrr
      clear hrr
      go_enter Tryz.func10, Tryz.ntmps10
      go_upto_region 1 with (fail)
      obtain ⟨W0, hW0⟩ : ∃ W0, W0 = (w.alloc (.cells #[.int .u8 h.h.k, .int .u8 h.h.op, .int .i64 h.h.pl, .int .i64 h.h.n, .string h.h.name, .string h.h.arg, .string h.h.exn, .int .i64 h.rho, .slice v.ra h.rhos.length v.rc, .slice v.ea h.e.length v.ec, .int .u8 h.ty.h.k, .int .i64 h.ty.h.r, .slice v.tea h.ty.h.e.length v.tec, .slice v.tka h.ty.ks.length v.tkc, .int .u8 h.re.h.k, .int .i64 h.re.h.r, .slice v.sea h.re.h.e.length v.sec, .slice v.ska h.re.ks.length v.skc, .slice v.ka l v.kc] 31)).alloc (.cells #[.int .u8 h'.h.k, .int .u8 h'.h.op, .int .i64 h'.h.pl, .int .i64 h'.h.n, .string h'.h.name, .string h'.h.arg, .string h'.h.exn, .int .i64 h'.rho, .slice v'.ra h'.rhos.length v'.rc, .slice v'.ea h'.e.length v'.ec, .int .u8 h'.ty.h.k, .int .i64 h'.ty.h.r, .slice v'.tea h'.ty.h.e.length v'.tec, .slice v'.tka h'.ty.ks.length v'.tkc, .int .u8 h'.re.h.k, .int .i64 h'.re.h.r, .slice v'.sea h'.re.h.e.length v'.sec, .slice v'.ska h'.re.ks.length v'.skc, .slice v'.ka l' v'.kc] 31) := ⟨_, rfl⟩
      have hbx1 : Box W0 w.heap.size h v l := by rw [hW0]; exact (box_of (w := w) (h := h) (v := v) (l := l)).below (box_new _)
      have hbx2 : Box W0 (w.heap.size + 1) h' v' l' := by
        rw [hW0]
        have := box_of (w := w.alloc (.cells #[.int .u8 h.h.k, .int .u8 h.h.op, .int .i64 h.h.pl, .int .i64 h.h.n, .string h.h.name, .string h.h.arg, .string h.h.exn, .int .i64 h.rho, .slice v.ra h.rhos.length v.rc, .slice v.ea h.e.length v.ec, .int .u8 h.ty.h.k, .int .i64 h.ty.h.r, .slice v.tea h.ty.h.e.length v.tec, .slice v.tka h.ty.ks.length v.tkc, .int .u8 h.re.h.k, .int .i64 h.re.h.r, .slice v.sea h.re.h.e.length v.sec, .slice v.ska h.re.ks.length v.skc, .slice v.ka l v.kc] 31)) (h := h') (v := v') (l := l') (ty := 31)
        rwa [World.size_alloc] at this
      have hb0 : Below w.heap.size w W0 := by rw [hW0]; exact (box_new _).trans ((box_new _).mono (by simp))
      rw [← hW0]
      clear hW0
      generalize hN2 : w.heap.size + 1 = N2 at hbx2 ⊢
      generalize hN1 : w.heap.size = N1 at hbx1 ⊢
      have HB0 := Lib.hid hb0; have HX1 := Lib.hid hbx1; have HX2 := Lib.hid hbx2; have HC0 := Lib.hid (Below.refl W0.heap.size W0)
      clear hb0 hN1 hN2 hbx1 hbx2
      obtain ⟨a0, a1, a2, a3, a4, a5, a6, a7, a8, a9, a10, a11, a12, a13, a14, a15, a16, a17, a18⟩ := HX1.out.below HC0.out
      obtain ⟨d0, d1, d2, d3, d4, d5, d6, d7, d8, d9, d10, d11, d12, d13, d14, d15, d16, d17, d18⟩ := HX2.out.below HC0.out
      clear a9 a10 a11 a12 a13 a14 a15 a16 a17 a18 d9 d10 d11 d12 d13 d14 d15 d16 d17 d18
      go_wp2_with (refine neq_hd rfl _ _ _ rfl h.h h'.h rfl rfl ?_; rw [H1.out])
      go_ret
      exact ⟨ret_bool HR.out.symm, HB0.out⟩
    have hs1 := HS.out; rw [decide_eq_true hrr] at hs1; simp only [Bool.true_and] at hs1
    clear HS
    have HS := Lib.hid hs1; clear hs1
    have n1 : (h.rho == h'.rho) = true := by simpa using hrr
    have n2 : (h.rho != h'.rho) = false := by simpa using hrr
    clear hrr
    go_enter Tryz.func10, Tryz.ntmps10
    go_upto_region 1 with (fail)
    obtain ⟨W0, hW0⟩ : ∃ W0, W0 = (w.alloc (.cells #[.int .u8 h.h.k, .int .u8 h.h.op, .int .i64 h.h.pl, .int .i64 h.h.n, .string h.h.name, .string h.h.arg, .string h.h.exn, .int .i64 h.rho, .slice v.ra h.rhos.length v.rc, .slice v.ea h.e.length v.ec, .int .u8 h.ty.h.k, .int .i64 h.ty.h.r, .slice v.tea h.ty.h.e.length v.tec, .slice v.tka h.ty.ks.length v.tkc, .int .u8 h.re.h.k, .int .i64 h.re.h.r, .slice v.sea h.re.h.e.length v.sec, .slice v.ska h.re.ks.length v.skc, .slice v.ka l v.kc] 31)).alloc (.cells #[.int .u8 h'.h.k, .int .u8 h'.h.op, .int .i64 h'.h.pl, .int .i64 h'.h.n, .string h'.h.name, .string h'.h.arg, .string h'.h.exn, .int .i64 h'.rho, .slice v'.ra h'.rhos.length v'.rc, .slice v'.ea h'.e.length v'.ec, .int .u8 h'.ty.h.k, .int .i64 h'.ty.h.r, .slice v'.tea h'.ty.h.e.length v'.tec, .slice v'.tka h'.ty.ks.length v'.tkc, .int .u8 h'.re.h.k, .int .i64 h'.re.h.r, .slice v'.sea h'.re.h.e.length v'.sec, .slice v'.ska h'.re.ks.length v'.skc, .slice v'.ka l' v'.kc] 31) := ⟨_, rfl⟩
    have hbx1 : Box W0 w.heap.size h v l := by rw [hW0]; exact (box_of (w := w) (h := h) (v := v) (l := l)).below (box_new _)
    have hbx2 : Box W0 (w.heap.size + 1) h' v' l' := by
      rw [hW0]
      have := box_of (w := w.alloc (.cells #[.int .u8 h.h.k, .int .u8 h.h.op, .int .i64 h.h.pl, .int .i64 h.h.n, .string h.h.name, .string h.h.arg, .string h.h.exn, .int .i64 h.rho, .slice v.ra h.rhos.length v.rc, .slice v.ea h.e.length v.ec, .int .u8 h.ty.h.k, .int .i64 h.ty.h.r, .slice v.tea h.ty.h.e.length v.tec, .slice v.tka h.ty.ks.length v.tkc, .int .u8 h.re.h.k, .int .i64 h.re.h.r, .slice v.sea h.re.h.e.length v.sec, .slice v.ska h.re.ks.length v.skc, .slice v.ka l v.kc] 31)) (h := h') (v := v') (l := l') (ty := 31)
      rwa [World.size_alloc] at this
    have hb0 : Below w.heap.size w W0 := by rw [hW0]; exact (box_new _).trans ((box_new _).mono (by simp))
    rw [← hW0]
    clear hW0
    generalize hN2 : w.heap.size + 1 = N2 at hbx2 ⊢
    generalize hN1 : w.heap.size = N1 at hbx1 ⊢
    have HB0 := Lib.hid hb0; have HX1 := Lib.hid hbx1; have HX2 := Lib.hid hbx2; have HC0 := Lib.hid (Below.refl W0.heap.size W0)
    clear hb0 hN1 hN2 hbx1 hbx2
    obtain ⟨a0, a1, a2, a3, a4, a5, a6, a7, a8, a9, a10, a11, a12, a13, a14, a15, a16, a17, a18⟩ := HX1.out.below HC0.out
    obtain ⟨d0, d1, d2, d3, d4, d5, d6, d7, d8, d9, d10, d11, d12, d13, d14, d15, d16, d17, d18⟩ := HX2.out.below HC0.out
    clear a9 a10 a11 a12 a13 a14 a15 a16 a17 a18 d9 d10 d11 d12 d13 d14 d15 d16 d17 d18
    go_wp2_with (refine neq_hd rfl _ _ _ rfl h.h h'.h rfl rfl ?_; rw [H1.out])
    clear n1 n2
    refine (HEI.out _ (below_then HB0.out HC0.out HB0.out.size)).mono ?_
    rintro e1 w1 ⟨rfl, hb1⟩
    have HC1 := Lib.hid (HC0.out.trans (hb1.mono HC0.out.size)); clear hb1
    clear a0 a1 a2 a3 a4 a5 a6 a7 a8 d0 d1 d2 d3 d4 d5 d6 d7 d8
    obtain ⟨a0, a1, a2, a3, a4, a5, a6, a7, a8, a9, a10, a11, a12, a13, a14, a15, a16, a17, a18⟩ := HX1.out.below HC1.out
    obtain ⟨d0, d1, d2, d3, d4, d5, d6, d7, d8, d9, d10, d11, d12, d13, d14, d15, d16, d17, d18⟩ := HX2.out.below HC1.out
    clear a0 a1 a2 a3 a4 a5 a6 a7 a8 a10 a11 a12 a13 a14 a15 a16 a17 a18 d0 d1 d2 d3 d4 d5 d6 d7 d8 d10 d11 d12 d13 d14 d15 d16 d17 d18
    cases hq1 : decide (h.rhos = h'.rhos)
    · have HR := Lib.hid (show sameT t u = false by rw [HS.out, hq1]; simp); clear hq1
      go_wp2_with (fail)
      go_ret
      exact ⟨ret_bool HR.out.symm, below_then HB0.out HC1.out HB0.out.size⟩
    have hs1 := HS.out; rw [hq1] at hs1; simp only [Bool.true_and, Bool.and_true] at hs1
    clear hq1 HS
    have HS := Lib.hid hs1; clear hs1
    go_wp2_with (fail)
    refine (HW1.out _ (below_then HB0.out HC1.out HB0.out.size)).mono ?_
    rintro e2 w2 ⟨rfl, hb2⟩
    have HC2 := Lib.hid (HC1.out.trans (hb2.mono HC1.out.size)); clear hb2
    clear a9 d9
    obtain ⟨a0, a1, a2, a3, a4, a5, a6, a7, a8, a9, a10, a11, a12, a13, a14, a15, a16, a17, a18⟩ := HX1.out.below HC2.out
    obtain ⟨d0, d1, d2, d3, d4, d5, d6, d7, d8, d9, d10, d11, d12, d13, d14, d15, d16, d17, d18⟩ := HX2.out.below HC2.out
    clear a0 a1 a2 a3 a4 a5 a6 a7 a8 a10 a11 a12 a13 a14 a15 a16 a17 a18 d0 d1 d2 d3 d4 d5 d6 d7 d8 d10 d11 d12 d13 d14 d15 d16 d17 d18
    cases hq2 : Effect.withinB h.e h'.e
    · have HR := Lib.hid (show sameT t u = false by rw [HS.out, hq2]; simp); clear hq2
      go_wp2_with (fail)
      go_ret
      exact ⟨ret_bool HR.out.symm, below_then HB0.out HC2.out HB0.out.size⟩
    have hs2 := HS.out; rw [hq2] at hs2; simp only [Bool.true_and, Bool.and_true] at hs2
    clear hq2 HS
    have HS := Lib.hid hs2; clear hs2
    go_wp2_with (fail)
    refine (HW2.out _ (below_then HB0.out HC2.out HB0.out.size)).mono ?_
    rintro e3 w3 ⟨rfl, hb3⟩
    have HC3 := Lib.hid (HC2.out.trans (hb3.mono HC2.out.size)); clear hb3
    clear a9 d9
    obtain ⟨a0, a1, a2, a3, a4, a5, a6, a7, a8, a9, a10, a11, a12, a13, a14, a15, a16, a17, a18⟩ := HX1.out.below HC3.out
    obtain ⟨d0, d1, d2, d3, d4, d5, d6, d7, d8, d9, d10, d11, d12, d13, d14, d15, d16, d17, d18⟩ := HX2.out.below HC3.out
    clear a0 a1 a2 a3 a4 a5 a6 a7 a8 a9 a14 a15 a16 a17 a18 d0 d1 d2 d3 d4 d5 d6 d7 d8 d9 d14 d15 d16 d17 d18
    cases hq3 : Effect.withinB h'.e h.e
    · have HR := Lib.hid (show sameT t u = false by rw [HS.out, hq3]; simp); clear hq3
      go_wp2_with (fail)
      go_ret
      exact ⟨ret_bool HR.out.symm, below_then HB0.out HC3.out HB0.out.size⟩
    have hs3 := HS.out; rw [hq3] at hs3; simp only [Bool.true_and, Bool.and_true] at hs3
    clear hq3 HS
    have HS := Lib.hid hs3; clear hs3
    go_wp2_with (fail)
    refine (HTY.out _ (below_then HB0.out HC3.out HB0.out.size)).mono ?_
    rintro e4 w4 ⟨rfl, hb4⟩
    have HC4 := Lib.hid (HC3.out.trans (hb4.mono HC3.out.size)); clear hb4
    clear a10 a11 a12 a13 d10 d11 d12 d13
    obtain ⟨a0, a1, a2, a3, a4, a5, a6, a7, a8, a9, a10, a11, a12, a13, a14, a15, a16, a17, a18⟩ := HX1.out.below HC4.out
    obtain ⟨d0, d1, d2, d3, d4, d5, d6, d7, d8, d9, d10, d11, d12, d13, d14, d15, d16, d17, d18⟩ := HX2.out.below HC4.out
    clear a0 a1 a2 a3 a4 a5 a6 a7 a8 a9 a10 a11 a12 a13 a18 d0 d1 d2 d3 d4 d5 d6 d7 d8 d9 d10 d11 d12 d13 d18
    cases hq4 : Rt.sameT h.ty h'.ty
    · have HR := Lib.hid (show sameT t u = false by rw [HS.out, hq4]; simp); clear hq4
      go_wp2_with (fail)
      go_ret
      exact ⟨ret_bool HR.out.symm, below_then HB0.out HC4.out HB0.out.size⟩
    have hs4 := HS.out; rw [hq4] at hs4; simp only [Bool.true_and, Bool.and_true] at hs4
    clear hq4 HS
    have HS := Lib.hid hs4; clear hs4
    go_wp2_with (fail)
    refine (HRE.out _ (below_then HB0.out HC4.out HB0.out.size)).mono ?_
    rintro e5 w5 ⟨rfl, hb5⟩
    have HC5 := Lib.hid (HC4.out.trans (hb5.mono HC4.out.size)); clear hb5
    clear a14 a15 a16 a17 d14 d15 d16 d17
    obtain ⟨a0, a1, a2, a3, a4, a5, a6, a7, a8, a9, a10, a11, a12, a13, a14, a15, a16, a17, a18⟩ := HX1.out.below HC5.out
    obtain ⟨d0, d1, d2, d3, d4, d5, d6, d7, d8, d9, d10, d11, d12, d13, d14, d15, d16, d17, d18⟩ := HX2.out.below HC5.out
    clear a0 a1 a2 a3 a4 a5 a6 a7 a8 a9 a10 a11 a12 a13 a14 a15 a16 a17 d0 d1 d2 d3 d4 d5 d6 d7 d8 d9 d10 d11 d12 d13 d14 d15 d16 d17
    cases hq5 : Rt.sameT h.re h'.re
    · have HR := Lib.hid (show sameT t u = false by rw [HS.out, hq5]; simp); clear hq5
      go_wp2_with (fail)
      go_ret
      exact ⟨ret_bool HR.out.symm, below_then HB0.out HC5.out HB0.out.size⟩
    have hs5 := HS.out; rw [hq5] at hs5; simp only [Bool.true_and, Bool.and_true] at hs5
    clear hq5 HS
    have HS := Lib.hid hs5; clear hs5
    have hsl := HS.out
    by_cases hll : l = l'
    case neg =>
      have HR := Lib.hid (show sameT t u = false by rw [hsl, decide_eq_false hll]; rfl)
      have n1 : ((l : Int) == (l' : Int)) = false := by rw [beq_eq_false_iff_ne]; omega
      have n2 : ((l : Int) != (l' : Int)) = true := by rw [bne, n1]; rfl
      clear hll hsl
      go_wp2_with (fail)
      go_ret
      exact ⟨ret_bool HR.out.symm, below_then HB0.out HC5.out HB0.out.size⟩
    subst hll
    rw [decide_eq_true rfl, Bool.true_and] at hsl
    have HR := Lib.hid hsl
    clear hsl HS
    go_wp2_with (fail)
    go_loopw [5, 68] (fun _ i wr => ∃ j : Nat, j ≤ l ∧ i = .int .i64 j ∧ Hid (sameK t.ks u.ks = sameK (t.ks.drop j) (u.ks.drop j)) ∧ Hid (Below W0.heap.size W0 wr)) (fun _ i _ => l - (intOf i).toNat)
    case atStart => exact ⟨0, Nat.zero_le _, rfl, Lib.hid (by rw [List.drop_zero, List.drop_zero]), HC5⟩
    case round =>
      clear a18 d18
      obtain ⟨j, hj, rfl, HSK, HW⟩ := hrel
      obtain ⟨a0, a1, a2, a3, a4, a5, a6, a7, a8, a9, a10, a11, a12, a13, a14, a15, a16, a17, a18⟩ := HX1.out.below HW.out
      obtain ⟨d0, d1, d2, d3, d4, d5, d6, d7, d8, d9, d10, d11, d12, d13, d14, d15, d16, d17, d18⟩ := HX2.out.below HW.out
      clear a0 a1 a2 a3 a4 a5 a6 a7 a8 a9 a10 a11 a12 a13 a14 a15 a16 a17 d0 d1 d2 d3 d4 d5 d6 d7 d8 d9 d10 d11 d12 d13 d14 d15 d16 d17
      have HWW := Lib.hid (below_then HB0.out HW.out HB0.out.size)
      by_cases hlt : j < l
      · have hjk : j < t.ks.length := by rw [HT.out.len]; exact hlt
        have hjk' : j < u.ks.length := by rw [HU.out.len]; exact hlt
        have hst := HSK.out
        rw [sameK_step _ _ _ hjk hjk'] at hst
        obtain ⟨b, o, q, hp, hkid, hrg⟩ := (HT.out.kids.stay HWW.out).load j hjk
        obtain ⟨b', o', q', hp', hkid', hrg'⟩ := (HU.out.kids.stay HWW.out).load j hjk'
        rw [hp] at a18
        rw [hp'] at d18
        have hwk := wts_get hjk
        have hwt := wt_ks t
        have hik := allK_get _ hjk HIK.out.1
        have hik' := allK_get _ hjk' HIK.out.2
        have hrd : wr.drew.rangeAt b (o + j * 19) (acells (tget t.ks j).h q (tget t.ks j).ks.length) := range_below hrg (Below.refl _ _).drew
        have hrd' : wr.drew.rangeAt b' (o' + j * 19) (acells (tget u.ks j).h q' (tget u.ks j).ks.length) := range_below hrg' (Below.refl _ _).drew
        have HST := Lib.hid hst; have HK := Lib.hid hkid; have HK' := Lib.hid hkid'; have HI1 := Lib.hid hik; have HI2 := Lib.hid hik'
        have HWK := Lib.hid hwk; have HWT := Lib.hid hwt; have HG := Lib.hid hrd; have HG' := Lib.hid hrd'
        clear hst hkid hkid' hwk hwt hjk hjk' hik hik' hp hp' hrg hrg' hrd hrd'
        go_wp2_with (fail)
        refine wp_region_still_tail 10 (by kernel_rfl) (by kernel_rfl) ?_
        simp only [List.take_succ_cons, List.take_zero, List.drop_succ_cons, List.drop_zero]
        iterate 4 still_step
        refine still_load rfl _ rfl b (o + j * 19) rfl HG.out ?_
        iterate 4 still_step
        refine still_load rfl _ rfl b' (o' + j * 19) rfl HG'.out ?_
        refine wpStill_nil ?_
        go_wp2_with (first | refine at_load rfl _ rfl b (o + j * 19) rfl HG.out ?_ | refine at_load rfl _ rfl b' (o' + j * 19) rfl HG'.out ?_)
        refine (IH.out (tget t.ks j) (tget u.ks j) _ _ q q' _ _ _ (by have := HM.out; have := HWK.out; have := HWT.out; omega) (HK.out.below (Below.refl _ _).drew) (HK'.out.below (Below.refl _ _).drew) HI1.out HI2.out).mono ?_
        rintro e w3 ⟨rfl, hb3⟩
        have HW3 := Lib.hid (HW.out.drew.trans (hb3.mono HW.out.size))
        have HWW3 := Lib.hid (HWW.out.drew.trans (hb3.mono HWW.out.size))
        clear hb3 a18 d18
        cases hs : sameT (tget t.ks j) (tget u.ks j)
        · have hr2 := HST.out
          rw [hs, Bool.false_and] at hr2
          have HR2 := Lib.hid hr2
          clear hr2 hs
          go_wp2
          go_ret
          exact ⟨ret_bool (by rw [HR.out, HR2.out]), HWW3.out⟩
        · have hr2 := HST.out
          rw [hs, Bool.true_and] at hr2
          have HR2 := Lib.hid hr2
          clear hr2 hs
          go_wp2
          go_roundw
          case rel => exact ⟨j + 1, by omega, by go_num, HR2, HW3⟩
          case measure => simp [intOf]; omega
      · obtain rfl : j = l := by omega
        have hr2 := HSK.out
        rw [List.drop_eq_nil_of_le (by rw [HT.out.len]; exact Nat.le_refl _), sameK_nil] at hr2
        have HR2 := Lib.hid hr2
        clear hr2
        go_wp2_with (fail)
        go_ret
        exact ⟨ret_bool (by rw [HR.out, HR2.out]), HWW.out⟩
end Aterm
end Go.Proofs.YtolpdhkgkjnbfaaGreatDoor
namespace Go.Proofs.YtolpdhkgkjnbfaaGreatDoor
open Go.RowKit
set_option linter.unusedVariables false
set_option linter.unusedSimpArgs false
namespace Aterm
open Effect (RdI nget nget_at nget_mem Ixs intsV own_slice)
open Rt (box_new box_at below_then)

theorem rd_one {W : World} {N : Nat} {x : Int} {ty : TypeId} (hN : N = W.heap.size) (hx : -9223372036854775808 ≤ x ∧ x ≤ 9223372036854775807) : RdI (W.alloc (.cells #[.int .i64 x] ty)) 1 (some ⟨N, 0, none⟩) [x] := by
  subst hN
  refine ⟨rfl, .inr ⟨_, 0, rfl, fun i hi => ?_⟩, fun y hy => by rw [List.mem_singleton] at hy; subst hy; exact hx⟩
  have hi0 : i = 0 := by simp at hi; omega
  subst hi0
  rw [World.cell?_alloc_mark]; rfl
theorem rd_nil (W : World) (p : Option Addr) : RdI W 0 p [] := ⟨rfl, .inl rfl, fun x hx => by cases hx⟩

end Aterm
end Go.Proofs.YtolpdhkgkjnbfaaGreatDoor
namespace Go.Proofs.YtolpdhkgkjnbfaaGreatDoor
open Go.RowKit
set_option linter.unusedVariables false
set_option linter.unusedSimpArgs false
namespace Aterm
open Effect (nget nget_at nget_mem ret_bool)
open Rt (box_new box_at box4)

/-- A row of bytes that is read. -/
structure RdB (w : World) (n : Nat) (p : Option Addr) (l : List Int) : Prop where
  len : l.length = n
  at_ : l = [] ∨ ∃ b o, p = some ⟨b, o, none⟩ ∧ ∀ i, i < l.length → w.cell? ⟨b, o + i, none⟩ = some (.int .u8 (nget l i))
theorem RdB.get {w : World} {n : Nat} {p : Option Addr} {l : List Int} (h : RdB w n p l) (i : Nat) (hi : i < l.length) : ∃ b o, p = some ⟨b, o, none⟩ ∧ w.cell? ⟨b, o + i, none⟩ = some (.int .u8 (nget l i)) := by
  rcases h.at_ with rfl | ⟨b, o, hp, hc⟩
  · simp at hi
  · exact ⟨b, o, hp, hc i hi⟩
/-- A row of kinds, just made. -/
theorem RdB.new {W : World} {N : Nat} {ty : TypeId} {l : List Int} (hN : N = W.heap.size) : RdB (W.alloc (.cells (l.map (Value.int .u8)).toArray ty)) l.length (some ⟨N, 0, none⟩) l := by
  subst hN
  refine ⟨rfl, .inr ⟨_, 0, rfl, fun i hi => ?_⟩⟩
  rw [World.cell?_alloc_mark]
  simp only [List.getElem?_toArray, List.getElem?_map, Nat.zero_add, nget_at hi, Option.map_some]
set_option maxRecDepth 100000 in
set_option maxHeartbeats 6400000 in
theorem in_walk {n c : Nat} {a : Option Addr} {l : List Int} {w : World} (h : RdB w n a l) (hn : n ≤ 100000) (x : Int) : Calls Tryz.prog 41 #[.slice a n c, .int .u8 x] w fun e w' => e = .returned (.bool (l.contains x)) ∧ w' = w := by
  have H := Lib.hid h
  clear h
  go_enter Tryz.func41, Tryz.ntmps41
  go_wp2_with (fail)
  go_loopw [5, 8] (fun _ i wr => ∃ j : Nat, j ≤ n ∧ i = .int .i64 (j : Int) ∧ Hid (wr = w) ∧ Hid (∀ i, i < j → nget l i ≠ x)) (fun _ i _ => n - (intOf i).toNat)
  case atStart => exact ⟨0, Nat.zero_le _, rfl, Lib.hid rfl, Lib.hid (fun i hi => absurd hi (Nat.not_lt_zero _))⟩
  case round =>
    obtain ⟨j, hj, rfl, HW, HA⟩ := hrel
    by_cases hlt : j < n
    · have hjl : j < l.length := by rw [H.out.len]; exact hlt
      obtain ⟨b1, o1, rfl, e0⟩ := H.out.get j hjl
      rw [← HW.out] at e0
      by_cases hx : nget l j = x
      · have HC := Lib.hid (show l.contains x = true by simp; rw [← hx]; exact nget_mem hjl)
        rw [hx] at e0
        have hxx : (x == x) = true := by simp
        clear hx hjl
        go_wp2_with (fail)
        go_ret
        exact ⟨ret_bool HC.out.symm, HW.out⟩
      · have hxx : (nget l j == x) = false := by simpa using hx
        have HX := Lib.hid hx
        clear hx hjl
        go_wp2_with (fail)
        go_roundw
        case rel => exact ⟨j + 1, by omega, by go_num, HW, Lib.hid fun i hi => by
            by_cases e : i = j
            · rw [e]; exact HX.out
            · exact HA.out i (by omega)⟩
        case measure => simp [intOf]; omega
    · obtain rfl : j = n := by omega
      have HC := Lib.hid (show l.contains x = false by
        rw [Bool.eq_false_iff]
        intro hc
        have hmem : x ∈ l := by simpa using hc
        obtain ⟨i, hi, e⟩ := List.mem_iff_getElem.1 hmem
        refine HA.out i (by rw [← H.out.len]; exact hi) ?_
        have := nget_at hi
        rw [List.getElem?_eq_getElem hi, e] at this
        exact (Option.some.inj this).symm)
      go_wp2_with (fail)
      go_ret
      exact ⟨ret_bool HC.out.symm, HW.out⟩

/-- Is a type none? -/
def plainB (t : Rt.RT) : Bool := decide (t.h.k = 0 ∧ t.h.r = 0 ∧ t.h.e.length = 0 ∧ t.ks.length = 0)
end Aterm
end Go.Proofs.YtolpdhkgkjnbfaaGreatDoor
namespace Go.Proofs.YtolpdhkgkjnbfaaGreatDoor
open Go.RowKit
set_option linter.unusedVariables false
namespace Term

theorem ret_i64 {a b : Int} (h : a = b) : Ending.returned (.int .i64 a) = .returned (.int .i64 b) := by rw [h]
theorem ret_bool {a b : Bool} (h : a = b) : Ending.returned (.bool a) = .returned (.bool b) := by rw [h]
theorem drop_tget (ts : List Tm) (k : Nat) (h : k < ts.length) : ts.drop k = tget ts k :: ts.drop (k + 1) := by
  rw [List.drop_eq_getElem_cons h]
  have := tget_at h
  rw [List.getElem?_eq_getElem h] at this
  rw [Option.some.inj this]
/-- A block just laid reads as it was laid, whatever came behind it. -/
theorem boxAt {w W : World} {cs : Array Value} {t : TypeId} (hb : Below (w.alloc (.cells cs t)).heap.size (w.alloc (.cells cs t)) W) (j : Nat) {v : Value} (hv : cs[j]? = some v) : W.cell? ⟨w.heap.size, j, none⟩ = some v := by
  have hlt : w.heap.size < (w.alloc (.cells cs t)).heap.size := by simp
  rw [hb.cell (p := ⟨w.heap.size, j, none⟩) hlt, World.cell?_alloc_mark, hv]

theorem take_tget (ts : List Tm) (k : Nat) (h : k < ts.length) : ts.take (k + 1) = ts.take k ++ [tget ts k] := by
  rw [List.take_add_one, tget_at h]; rfl
end Term
end Go.Proofs.YtolpdhkgkjnbfaaGreatDoor
namespace Go.Proofs.YtolpdhkgkjnbfaaGreatDoor
open Go.RowKit
set_option linter.unusedVariables false
namespace Term
open Words (nameB exnB)

/-- How many kids a kind has; -1. -/
def kidsN (k : Int) : Int :=
  if k = 1 ∨ k = 2 then 0 else if k = 4 ∨ k = 5 ∨ k = 6 ∨ k = 7 ∨ k = 11 ∨ k = 15 then 1 else if k = 3 ∨ k = 8 ∨ k = 9 ∨ k = 10 ∨ k = 12 ∨ k = 13 ∨ k = 16 then 2 else if k = 14 then 3 else -1
theorem kidsN_none {k : Int} (h : k < 1 ∨ 16 < k) : kidsN k = -1 := by unfold kidsN; repeat' split; all_goals omega

/-- Is a text there just where it should be? -/
def fitsB (there : Bool) (s : ByteArray) (ok : Bool) : Bool := if there = true then ok else decide (s.size = 0)
theorem fits_walk (there : Bool) (s : ByteArray) (ok : Bool) (w : World) :
    Calls Tryz.prog 52 #[.bool there, .string s, .bool ok] w fun e w' => e = .returned (.bool (fitsB there s ok)) ∧ w = w' := by
  cases there
  · by_cases h0 : s.size = 0
    · have hn : s.toList = [] := by rw [Lib.toList_data]; exact List.length_eq_zero_iff.1 h0
      have hr : fitsB false s ok = true := by unfold fitsB; simp [h0]
      have HR := Lib.hid hr
      clear hr h0
      go_enter Tryz.func52, Tryz.ntmps52
      go_wp2
      go_ret
      exact ⟨ret_bool HR.out.symm, rfl⟩
    · have hne : s.toList ≠ [] := by rw [Lib.toList_data]; exact fun e => h0 (by have := congrArg List.length e; simpa using this)
      have hne' : (!s.toList.isEmpty) = true := by simpa using hne
      have hne2 : s.toList.isEmpty = false := by simpa using hne
      have hr : fitsB false s ok = false := by unfold fitsB; simp [h0]
      have HR := Lib.hid hr
      clear hr h0
      go_enter Tryz.func52, Tryz.ntmps52
      go_wp2
      go_ret
      exact ⟨ret_bool HR.out.symm, rfl⟩
  · cases ok
    all_goals
      go_enter Tryz.func52, Tryz.ntmps52
      go_wp2
      go_ret
      exact ⟨ret_bool (by unfold fitsB; rfl), rfl⟩
end Term
end Go.Proofs.YtolpdhkgkjnbfaaGreatDoor
namespace Go.Proofs.YtolpdhkgkjnbfaaGreatDoor
open Go.RowKit
set_option linter.unusedVariables false
namespace Term
open Words (nameB exnB)

def opOk (h : Hd) : Prop := if h.k = 9 then 1 ≤ h.op ∧ h.op ≤ 5 else h.op = 0
def nOk (h : Hd) : Prop := 0 ≤ h.n ∧ h.n ≤ 2147483647 ∧ (h.k ≠ 1 → h.n = 0)
instance (h : Hd) : Decidable (opOk h) := by unfold opOk; infer_instance
instance (h : Hd) : Decidable (nOk h) := by unfold nOk; infer_instance
def nameF (k : Int) : Bool := decide (k = 2 ∨ k = 12 ∨ k = 13)
def argF (k : Int) : Bool := decide (k = 11 ∨ k = 13 ∨ k = 16)
def exnF (k : Int) : Bool := decide (k = 15 ∨ k = 16)
/-- May a node alone be, of so many kids? -/
def nodeB (h : Hd) (l : Nat) : Bool := decide (kidsN h.k = l ∧ 0 ≤ h.pl ∧ opOk h ∧ nOk h) && (fitsB (nameF h.k) h.name (nameB h.name) && fitsB (argF h.k) h.arg (nameB h.arg) && fitsB (exnF h.k) h.exn (exnB h.exn))
theorem nodeB_no {h : Hd} {l : Nat} (hn : ¬ (kidsN h.k = l ∧ 0 ≤ h.pl ∧ opOk h ∧ nOk h)) : nodeB h l = false := by unfold nodeB; rw [decide_eq_false hn]; rfl
end Term
end Go.Proofs.YtolpdhkgkjnbfaaGreatDoor
namespace Go.Proofs.YtolpdhkgkjnbfaaGreatDoor
open Go.RowKit
set_option linter.unusedVariables false
namespace Term

mutual
/-- All nodes, each ahead of its kids'. -/
def flatT : Tm → List Tm
  | .node h l => .node h l :: flatK l
def flatK : List Tm → List Tm
  | [] => []
  | t :: ts => flatT t ++ flatK ts
end
theorem flatT_eq (t : Tm) : flatT t = t :: flatK t.ks := by cases t; unfold flatT; rfl
theorem flatK_nil : flatK [] = [] := by unfold flatK; rfl
theorem flatK_cons (t : Tm) (ts : List Tm) : flatK (t :: ts) = flatT t ++ flatK ts := by conv => lhs; unfold flatK
theorem flat_len : ∀ m : Nat, (∀ t, wt t ≤ m → (flatT t).length = wt t) ∧ (∀ ts, wts ts ≤ m → (flatK ts).length = wts ts) := by
  intro m
  induction m with
  | zero =>
    refine ⟨fun t h => by have := wt_pos t; omega, fun ts h => ?_⟩
    cases ts with
    | nil => rw [flatK_nil, wts_nil]; rfl
    | cons t ts => rw [wts_cons] at h; have := wt_pos t; omega
  | succ m ih =>
    have hT : ∀ t, wt t ≤ m + 1 → (flatT t).length = wt t := by
      intro t h
      have hk := wt_ks t
      have := ih.2 t.ks (by omega)
      rw [flatT_eq, List.length_cons, this]
      omega
    refine ⟨hT, fun ts => ?_⟩
    induction ts with
    | nil => intro _; rw [flatK_nil, wts_nil]; rfl
    | cons t ts ihs =>
      intro h
      rw [wts_cons] at h
      rw [flatK_cons, wts_cons, List.length_append, hT t (by omega), ihs (by omega)]
theorem flatT_len (t : Tm) : (flatT t).length = wt t := (flat_len (wt t)).1 t (Nat.le_refl _)
/-- Terms by value, one behind the other, their kids in the memory w. -/
def Flat (w : World) : List Value → List Tm → Prop
  | xs, [] => xs = []
  | xs, t :: ts => ∃ q c ys, xs = tcells t.h q t.ks.length c ++ ys ∧ TmIs w t.h q t.ks.length c t ∧ Flat w ys ts
theorem Flat.append {w : World} : ∀ {ts us : List Tm} {xs ys : List Value}, Flat w xs ts → Flat w ys us → Flat w (xs ++ ys) (ts ++ us)
  | [], us, xs, ys, h, k => by
    have : xs = [] := h
    subst this
    exact k
  | t :: ts, us, xs, ys, ⟨q, c, zs, he, hT, h⟩, k => ⟨q, c, zs ++ ys, by rw [he, List.append_assoc], hT, h.append k⟩
theorem Flat.len {w : World} : ∀ {ts : List Tm} {xs : List Value}, Flat w xs ts → xs.length = ts.length * 8
  | [], xs, h => by
    have : xs = [] := h
    subst this
    rfl
  | t :: ts, xs, ⟨q, c, zs, he, _, h⟩ => by
    rw [he, List.length_append, h.len, List.length_cons]
    simp [tcells]
    omega
theorem Flat.one {w : World} {t : Tm} {h : Hd} {q : Option Addr} {l c : Nat} (hT : TmIs w h q l c t) : Flat w (tcells h q l c) [t] := by
  obtain ⟨h1, h2, h3, h4, h5⟩ := hT
  subst h1 h2
  exact ⟨q, c, [], by simp, ⟨rfl, rfl, h3, h4, h5⟩, rfl⟩
theorem Flat.get {w : World} : ∀ {ts : List Tm} {xs : List Value}, Flat w xs ts → ∀ i, i < ts.length → ∃ q c, TmIs w (tget ts i).h q (tget ts i).ks.length c (tget ts i) ∧ ∀ j v, (tcells (tget ts i).h q (tget ts i).ks.length c)[j]? = some v → xs[i * 8 + j]? = some v
  | [], xs, _, i, hi => by simp at hi
  | t :: ts, xs, ⟨q, c, zs, he, hT, h⟩, 0, _ => by
    refine ⟨q, c, hT, fun j v hv => ?_⟩
    rw [he, Nat.zero_mul, Nat.zero_add, List.getElem?_append_left ?_]
    · exact hv
    · rcases Nat.lt_or_ge j (tcells t.h q t.ks.length c).length with h | h
      · exact h
      · rw [List.getElem?_eq_none (by exact h)] at hv; cases hv
  | t :: ts, xs, ⟨q, c, zs, he, hT, h⟩, i + 1, hi => by
    obtain ⟨q', c', h1, h2⟩ := h.get i (by simpa using hi)
    refine ⟨q', c', h1, fun j v hv => ?_⟩
    rw [he, List.getElem?_append_right (by simp [tcells]; omega)]
    have e : (i + 1) * 8 + j - (tcells t.h q t.ks.length c).length = i * 8 + j := by simp [tcells]; omega
    rw [e]
    exact h2 j v hv
theorem Flat.stay {w W : World} (hb : Below w.heap.size w W) : ∀ {ts : List Tm} {xs : List Value}, Flat w xs ts → Flat W xs ts
  | [], xs, h => h
  | t :: ts, xs, ⟨q, c, zs, he, hT, h⟩ => ⟨q, c, zs, he, hT.below hb, h.stay hb⟩
theorem infoTerm : (Tryz.prog.info? 38).map (fun i => (i.zero, i.size, i.bytes)) = some (some (.agg #[.int .u8 0, .int .u8 0, .int .i64 0, .int .i64 0, .string ⟨#[]⟩, .string ⟨#[]⟩, .string ⟨#[]⟩, .slice none 0 0]), 8, 96) := by kernel_rfl
end Term
end Go.Proofs.YtolpdhkgkjnbfaaGreatDoor
namespace Go.Proofs.YtolpdhkgkjnbfaaGreatDoor
open Go.RowKit
set_option linter.unusedVariables false
namespace Term
open Words (nameB exnB)

mutual
/-- May all nodes be? -/
def okT : Tm → Bool
  | .node h l => nodeB h l.length && okK l
def okK : List Tm → Bool
  | [] => true
  | t :: ts => okT t && okK ts
end
theorem okT_eq (t : Tm) : okT t = (nodeB t.h t.ks.length && okK t.ks) := by
  cases t
  conv => lhs; unfold okT
  rfl
theorem okK_nil : okK [] = true := by unfold okK; rfl
theorem okK_cons (t : Tm) (ts : List Tm) : okK (t :: ts) = (okT t && okK ts) := by conv => lhs; unfold okK
/-- May a term be? -/
def mayT (t : Tm) : Bool := decide (wt t ≤ 4000) && okT t
end Term
end Go.Proofs.YtolpdhkgkjnbfaaGreatDoor
namespace Go.Proofs.YtolpdhkgkjnbfaaGreatDoor
open Go.RowKit
set_option linter.unusedVariables false
set_option linter.unusedSimpArgs false
namespace Aterm
open Effect (At AtOk AtsAt Rd RdI ofA)
open Words (nameB exnB)

/-- A head of a kind that layer 4 knows, of just these fields and kids. -/
def likeK (k : Int) : Int := if k = 17 then 4 else if k = 18 then 2 else k
def likeH (h : Term.Hd) : Term.Hd := { h with k := likeK h.k }
def headOk (h : Term.Hd) (n : Nat) : Bool := Term.nodeB (likeH h) n
def rhoOk (h : Hd) : Bool := if h.h.k = 3 ∨ h.h.k = 6 ∨ h.h.k = 11 ∨ h.h.k = 13 ∨ h.h.k = 18 then decide (0 ≤ h.rho) else if h.h.k = 17 then decide (1 ≤ h.rho) else decide (h.rho = 0)
def rhosOk (h : Hd) : Bool := if h.h.k = 13 then !metO [] h.rhos && decide (∀ x ∈ h.rhos, 1 ≤ x) else if h.h.k = 18 then decide (∀ x ∈ h.rhos, 0 ≤ x) else decide (h.rhos.length = 0)
def effK (k : Int) : Bool := decide (k = 11 ∨ k = 13 ∨ k = 18)
def typK (k : Int) : Bool := decide (k = 11 ∨ k = 13 ∨ k = 15)
def effOk (h : Hd) : Bool := if effK h.h.k = true then decide (h.e = ofA h.e) else decide (h.e.length = 0)
def typOk (h : Hd) : Bool := if typK h.h.k = true then Rt.mayT h.ty else plainB h.ty
def resOk (h : Hd) : Bool := if h.h.k = 13 then Rt.mayT h.re else plainB h.re
/-- May a node alone be, of so many kids? -/
def nodeB (h : Hd) (n : Nat) : Bool := headOk h.h n && rhoOk h && rhosOk h && effOk h && typOk h && resOk h
/-- May a term be? -/
def mayT (t : AT) : Bool := decide (wt t ≤ 40000) && allT nodeB t

theorem kids_le {k : Int} : Term.kidsN k ≤ 3 := by unfold Term.kidsN; repeat' split; all_goals omega
theorem head_many {h : Term.Hd} {n : Nat} (hn : 3 < n) : headOk h n = false := by
  unfold headOk
  exact Term.nodeB_no (fun hh => by have := kids_le (k := (likeH h).k); have := hh.1; omega)

/-! ### All nodes, as far as they hold -/
mutual
def foT {σ : Type} (B : σ → AT → Bool) (S : σ → AT → σ) : AT → σ → Bool × σ
  | .node h l, s => if B s (.node h l) = true then foK B S l (S s (.node h l)) else (false, S s (.node h l))
def foK {σ : Type} (B : σ → AT → Bool) (S : σ → AT → σ) : List AT → σ → Bool × σ
  | [], s => (true, s)
  | t :: ts, s => if (foT B S t s).1 = true then foK B S ts (foT B S t s).2 else (false, (foT B S t s).2)
end
section
variable {σ : Type} (B : σ → AT → Bool) (S : σ → AT → σ)
theorem foT_eq (t : AT) (s : σ) : foT B S t s = if B s t = true then foK B S t.ks (S s t) else (false, S s t) := by cases t; unfold foT; rfl
theorem foK_nil (s : σ) : foK B S [] s = (true, s) := by unfold foK; rfl
theorem foK_cons (t : AT) (ts : List AT) (s : σ) : foK B S (t :: ts) s = if (foT B S t s).1 = true then foK B S ts (foT B S t s).2 else (false, (foT B S t s).2) := by conv => lhs; unfold foK
theorem foK_no {ts : List AT} {j : Nat} {u : σ} (hj : j < ts.length) (h : B u (tget ts j) = false) : foK B S (ts.drop j) u = (false, S u (tget ts j)) := by
  rw [drop_tget ts j hj, foK_cons, foT_eq]
  simp [h]
theorem foK_kno {ts : List AT} {j : Nat} {u : σ} (hj : j < ts.length) (h : B u (tget ts j) = true) (hk : (foK B S (tget ts j).ks (S u (tget ts j))).1 = false) : foK B S (ts.drop j) u = (false, (foK B S (tget ts j).ks (S u (tget ts j))).2) := by
  rw [drop_tget ts j hj, foK_cons, foT_eq, if_pos h, if_neg (by rw [hk]; exact Bool.false_ne_true)]
theorem foK_yes {ts : List AT} {j : Nat} {u : σ} (hj : j < ts.length) (h : B u (tget ts j) = true) (hk : (foK B S (tget ts j).ks (S u (tget ts j))).1 = true) : foK B S (ts.drop j) u = foK B S (ts.drop (j + 1)) (foK B S (tget ts j).ks (S u (tget ts j))).2 := by
  rw [drop_tget ts j hj, foK_cons, foT_eq, if_pos h, if_pos hk]
/-- Along the list of nodes. -/
def foL : List AT → σ → Bool × σ
  | [], s => (true, s)
  | t :: ts, s => if B s t = true then foL ts (S s t) else (false, S s t)
theorem foL_append (l m : List AT) (s : σ) : foL B S (l ++ m) s = if (foL B S l s).1 = true then foL B S m (foL B S l s).2 else foL B S l s := by
  induction l generalizing s with
  | nil => simp [foL]
  | cons t ts ih =>
    rw [List.cons_append, foL, foL]
    by_cases hb : B s t = true
    · rw [if_pos hb, if_pos hb]; exact ih _
    · rw [if_neg hb, if_neg hb, if_neg Bool.false_ne_true]
theorem fo_flat : ∀ m : Nat, (∀ t s, wt t ≤ m → foT B S t s = foL B S (flatT t) s) ∧ (∀ ts s, wts ts ≤ m → foK B S ts s = foL B S (flatK ts) s) := by
  intro m
  induction m with
  | zero =>
    refine ⟨fun t s h => by have := wt_pos t; omega, fun ts s h => ?_⟩
    cases ts with
    | nil => rw [flatK_nil, foK_nil]; rfl
    | cons t ts => rw [wts_cons] at h; have := wt_pos t; omega
  | succ m ih =>
    have hT : ∀ t s, wt t ≤ m + 1 → foT B S t s = foL B S (flatT t) s := by
      intro t s h
      have hk := wt_ks t
      rw [flatT_eq, foT_eq, foL]
      split
      · exact ih.2 t.ks _ (by omega)
      · rfl
    refine ⟨hT, fun ts => ?_⟩
    induction ts with
    | nil => intro s _; rw [flatK_nil, foK_nil]; rfl
    | cons t ts ihs =>
      intro s h
      rw [wts_cons] at h
      rw [flatK_cons, foK_cons, foL_append, ← hT t s (by omega)]
      split
      · exact ihs _ (by omega)
      · rename_i hh
        have : (foT B S t s).1 = false := by simpa using hh
        rw [← this]
theorem foT_flat (t : AT) (s : σ) : foT B S t s = foL B S (flatT t) s := (fo_flat B S (wt t)).1 t s (Nat.le_refl _)
theorem foK_flat (ts : List AT) (s : σ) : foK B S ts s = foL B S (flatK ts) s := (fo_flat B S (wts ts)).2 ts s (Nat.le_refl _)
end
/-- Of what holds always. -/
theorem foL_true {σ : Type} (S : σ → AT → σ) : ∀ (l : List AT) (s : σ), foL (fun _ _ => true) S l s = (true, l.foldl S s)
  | [], s => rfl
  | t :: ts, s => by rw [foL, if_pos rfl, foL_true S ts, List.foldl_cons]

/-! ### May -/
def mayB (s : Int) (t : AT) : Bool := decide (0 ≤ s - 1) && nodeB t.h t.ks.length
def mayS (s : Int) (_ : AT) : Int := s - 1
theorem foL_may : ∀ (l : List AT) (s : Int), 0 ≤ s → (foL mayB mayS l s).1 = (decide ((l.length : Int) ≤ s) && l.all fun t => nodeB t.h t.ks.length)
  | [], s, hs => by rw [foL]; simp; exact hs
  | t :: ts, s, hs => by
    rw [foL]
    by_cases h0 : 0 ≤ s - 1
    · have hb : mayB s t = nodeB t.h t.ks.length := by unfold mayB; rw [decide_eq_true h0, Bool.true_and]
      cases hn : nodeB t.h t.ks.length
      · rw [hb, hn, if_neg Bool.false_ne_true]
        simp [hn]
      · rw [hb, hn, if_pos rfl, foL_may ts (mayS s t) h0, List.all_cons, hn, Bool.true_and, List.length_cons]
        congr 1
        rw [decide_eq_decide]
        unfold mayS
        omega
    · have hb : mayB s t = false := by unfold mayB; rw [decide_eq_false h0, Bool.false_and]
      rw [hb, if_neg Bool.false_ne_true, decide_eq_false (by rw [List.length_cons]; omega), Bool.false_and]
section
variable (B : Hd → Nat → Bool)
theorem all_flat : ∀ m : Nat, (∀ t, wt t ≤ m → allT B t = (flatT t).all fun t => B t.h t.ks.length) ∧ (∀ ts, wts ts ≤ m → allK B ts = (flatK ts).all fun t => B t.h t.ks.length) := by
  intro m
  induction m with
  | zero =>
    refine ⟨fun t h => by have := wt_pos t; omega, fun ts h => ?_⟩
    cases ts with
    | nil => rw [flatK_nil, allK_nil]; rfl
    | cons t ts => rw [wts_cons] at h; have := wt_pos t; omega
  | succ m ih =>
    have hT : ∀ t, wt t ≤ m + 1 → allT B t = (flatT t).all fun t => B t.h t.ks.length := by
      intro t h
      have hk := wt_ks t
      rw [allT_eq, flatT_eq, List.all_cons, ih.2 t.ks (by omega)]
    refine ⟨hT, fun ts => ?_⟩
    induction ts with
    | nil => intro _; rw [flatK_nil, allK_nil]; rfl
    | cons t ts ihs =>
      intro h
      rw [wts_cons] at h
      rw [allK_cons, flatK_cons, List.all_append, hT t (by omega), ihs (by omega)]
theorem allT_flat (t : AT) : allT B t = (flatT t).all fun t => B t.h t.ks.length := (all_flat B (wt t)).1 t (Nat.le_refl _)
end
theorem fo_may (t : AT) : (foT mayB mayS t 40000).1 = mayT t := by
  rw [foT_flat, foL_may _ _ (by omega), flatT_len, ← allT_flat]
  unfold mayT
  congr 1
  rw [decide_eq_decide]
  omega

/-! ### Apart -/
/-- What is met behind a node's own, up to the first one that was met. -/
def metI : List Int → List Int → List Int
  | met, [] => met
  | met, x :: xs => if met.contains x = true then met else metI (met ++ [x]) xs
theorem metI_no : ∀ (xs met : List Int), metO met xs = false → metI met xs = met ++ xs
  | [], met, _ => by rw [metI, List.append_nil]
  | x :: xs, met, h => by
    rw [metO, Bool.or_eq_false_iff] at h
    rw [metI, if_neg (by rw [h.1]; exact Bool.false_ne_true), metI_no xs _ h.2, List.append_assoc]; rfl
/-- What is met, and where one was met again. -/
def apS (s : List Int × Option Int) (t : AT) : List Int × Option Int := (metI s.1 (ownH t.h), if metO s.1 (ownH t.h) = true then some t.h.h.pl else s.2)
def apB (s : List Int × Option Int) (t : AT) : Bool := !metO s.1 (ownH t.h)
theorem foL_apart : ∀ (l : List AT) (met : List Int), (foL apB apS l (met, none)).1 = (apartL l met).isNone ∧ (foL apB apS l (met, none)).2.2 = apartL l met
  | [], met => ⟨rfl, rfl⟩
  | t :: ts, met => by
    rw [foL, apartL]
    by_cases hm : metO met (ownH t.h) = true
    · have hb : apB (met, none) t = false := by unfold apB; simp only; rw [hm]; rfl
      have hs : (apS (met, none) t).2 = some t.h.h.pl := by unfold apS; simp only; rw [if_pos hm]
      rw [hb, if_neg Bool.false_ne_true, if_pos hm]
      exact ⟨rfl, hs⟩
    · have hm' : metO met (ownH t.h) = false := by simpa using hm
      have hb : apB (met, none) t = true := by unfold apB; simp only; rw [hm']; rfl
      have hs : apS (met, none) t = (met ++ ownH t.h, none) := by unfold apS; simp only; rw [if_neg hm, metI_no _ _ hm']
      rw [hb, if_pos rfl, if_neg hm, hs]
      exact foL_apart ts _
theorem fo_apart (t : AT) : (foT apB apS t ([], none)).1 = (apartT t).isNone ∧ (foT apB apS t ([], none)).2.2 = apartT t := by
  rw [foT_flat]
  exact foL_apart _ _
end Aterm
end Go.Proofs.YtolpdhkgkjnbfaaGreatDoor
namespace Go.Proofs.YtolpdhkgkjnbfaaGreatDoor
open Go.RowKit
set_option linter.unusedVariables false
set_option linter.unusedSimpArgs false
namespace Aterm
open Rt (box_new box_at below_then)
open Effect (ret_bool ret_i64 lt_of_block heap_alloc_new)

/-- Only blocks of P may be turned. -/
structure Tch (P : Nat → Option Obj → Prop) (w w' : World) : Prop where
  os : w'.os = w.os
  tape : w'.tape = w.tape
  output : w'.output = w.output
  size : w.heap.size ≤ w'.heap.size
  block : ∀ k, k < w.heap.size → ¬ P k w.heap[k]? → w'.heap[k]? = w.heap[k]?
section
variable {P : Nat → Option Obj → Prop}
theorem Tch.refl (w : World) : Tch P w w := ⟨rfl, rfl, rfl, Nat.le_refl _, fun _ _ _ => rfl⟩
theorem Tch.trans {a b c : World} (h : Tch P a b) (k : Tch P b c) : Tch P a c :=
  ⟨k.os.trans h.os, k.tape.trans h.tape, k.output.trans h.output, Nat.le_trans h.size k.size, fun i hi hn => by
    have h1 := h.block i hi hn
    exact (k.block i (Nat.lt_of_lt_of_le hi h.size) (by rw [h1]; exact hn)).trans h1⟩
theorem Tch.of_below {w w' : World} (hb : Below w.heap.size w w') : Tch P w w' := ⟨hb.os, hb.tape, hb.output, hb.size, fun i hi _ => hb.block i hi⟩
theorem Tch.alloc {a w : World} (h : Tch P a w) (O : Obj) : Tch P a (w.alloc O) := h.trans (Tch.of_below (box_new O))
theorem Tch.drew {a w : World} (h : Tch P a w) : Tch P a w.drew := ⟨h.os, h.tape, h.output, h.size, h.block⟩
theorem Tch.below {w w' a : World} {B : Nat} (h : Tch P w w') (hP : ∀ k O, k < B → ¬ P k O) (ha : Below B a w) (hB : B ≤ a.heap.size) : Below B a w' :=
  ⟨h.os.trans ha.os, h.tape.trans ha.tape, h.output.trans ha.output, Nat.le_trans ha.size h.size, fun k hk => (h.block k (by have := ha.size; omega) (hP k _ hk)).trans (ha.block k hk)⟩
theorem Tch.range {w w' : World} (h : Tch P w w') {b o : Nat} {cs : List Value} (hr : w.rangeAt b o cs) (hn : ¬ P b w.heap[b]?) : w'.rangeAt b o cs := fun j v hv => by
  have h1 := hr j v hv
  have hlt : b < w.heap.size := World.block_lt_of_cell? w ⟨b, o + j, none⟩ h1
  rw [World.cell?_of_block (w := w) (a := ⟨b, o + j, none⟩) (h.block b hlt hn)]
  exact h1
theorem Tch.box {w w' : World} (h : Tch P w w') {N : Nat} {hd : Hd} {v : V} {l : Nat} (k : Box w N hd v l) (hn : ¬ P N w.heap[N]?) : Box w' N hd v l := by
  have hlt : N < w.heap.size := World.block_lt_of_cell? w _ k.1
  have hb := h.block N hlt hn
  unfold Box at *
  simp only [World.cell?_of_block (w := w) (w' := w') (a := ⟨N, _, none⟩) hb]
  exact k
end
/-- What is asked of a state's reading in memory. -/
structure Goes {σ : Type} (w0 : World) (P : Nat → Option Obj → Prop) (I : Nat → σ → World → Prop) : Prop where
  low : ∀ k O, k < w0.heap.size → ¬ P k O
  new : ∀ r s W, I r s W → ∀ cs fz, ¬ P W.heap.size (some (.cells cs 31 fz))
  keep : ∀ r s W W', I r s W → Below W.heap.size W W' → I r s W'
  less : ∀ r r' s W, I r s W → r' ≤ r → I r' s W
/-- How such a call ends. -/
def FoEnd {σ : Type} (P : Nat → Option Obj → Prop) (I : σ → World → Prop) (r : Bool × σ) (w : World) (e : Ending) (w' : World) : Prop := e = .returned (.bool r.1) ∧ I r.2 w' ∧ Tch P w w'
/-- What is asked of the closure. -/
def Steps {σ : Type} (c : Nat) (env : List Value) (B : σ → AT → Bool) (S : σ → AT → σ) (C : Hd → Nat → Bool) (w0 : World) (P : Nat → Option Obj → Prop) (I : Nat → σ → World → Prop) : Prop :=
  ∀ r s W t h v l, I (r + 1) s W → AtIs w0 h v l t → C h l = true → Below w0.heap.size w0 W → Calls Tryz.prog c (Value.agg #[.int .u8 h.h.k, .int .u8 h.h.op, .int .i64 h.h.pl, .int .i64 h.h.n, .string h.h.name, .string h.h.arg, .string h.h.exn, .int .i64 h.rho, .slice v.ra h.rhos.length v.rc, .slice v.ea h.e.length v.ec, .int .u8 h.ty.h.k, .int .i64 h.ty.h.r, .slice v.tea h.ty.h.e.length v.tec, .slice v.tka h.ty.ks.length v.tkc, .int .u8 h.re.h.k, .int .i64 h.re.h.r, .slice v.sea h.re.h.e.length v.sec, .slice v.ska h.re.ks.length v.skc, .slice v.ka l v.kc] :: env).toArray W (FoEnd P (I r) (B s t, S s t) W)
/-- A row of terms: its cells may lie in newer memory. -/
def RowS (w0 W : World) (p : Option Addr) (ts : List AT) : Prop := ∀ i, i < ts.length → ∃ b o v, p = some ⟨b, o, none⟩ ∧ AtIs w0 (tget ts i).h v (tget ts i).ks.length (tget ts i) ∧ W.rangeAt b (o + i * 19) (acells (tget ts i).h v (tget ts i).ks.length)
theorem rowS_kids {w0 W : World} {p : Option Addr} {ts : List AT} (h : Kids w0 p ts) (hb : Below w0.heap.size w0 W) : RowS w0 W p ts := fun i hi => by
  obtain ⟨b, o, v, h1, h2, h3⟩ := h.load i hi
  exact ⟨b, o, v, h1, h2, range_below h3 hb⟩
theorem wts_drop' (ts : List AT) (j : Nat) (hj : j < ts.length) : wts (ts.drop j) = wts (tget ts j).ks + 1 + wts (ts.drop (j + 1)) := by
  rw [wts_drop ts j hj, wt_ks]
/-- A term that is loaded behind a guard that is met. -/
theorem at_load_g {ops : Array Oper} {rest : List Oper} {op : Oper} {a : Act} {w : World} {Q : Exit → Act → World → Prop} (hw : Region.wanted op (yielded ops a.tmps) = true) (x : Operand) (ho : op.op = .load 31 x)
    (b o : Nat) (hx : a.eval x = .pointer (some ⟨b, o, none⟩)) {h : Hd} {v : V} {l : Nat} (hr : w.rangeAt b o (acells h v l))
    (k : wpList Tryz.prog ops Q rest (a.put op.dst (.agg #[.int .u8 h.h.k, .int .u8 h.h.op, .int .i64 h.h.pl, .int .i64 h.h.n, .string h.h.name, .string h.h.arg, .string h.h.exn, .int .i64 h.rho, .slice v.ra h.rhos.length v.rc, .slice v.ea h.e.length v.ec, .int .u8 h.ty.h.k, .int .i64 h.ty.h.r, .slice v.tea h.ty.h.e.length v.tec, .slice v.tka h.ty.ks.length v.tkc, .int .u8 h.re.h.k, .int .i64 h.re.h.r, .slice v.sea h.re.h.e.length v.sec, .slice v.ska h.re.ks.length v.skc, .slice v.ka l v.kc])) w) : wpList Tryz.prog ops Q (op :: rest) a w := by
  rw [wpList, if_pos hw]
  exact .inl (wp_load_mid 31 x ho b o hx (acells h v l) _ hr Tryz.underlying31 rfl atInfo k)
/-- A term that is laid into a block that was made last. -/
theorem at_store {ops : Array Oper} {rest : List Oper} {op : Oper} {a : Act} {w0 : World} {Q : Exit → Act → World → Prop} (hgd : op.guard = none) (x y : Operand) (ho : op.op = .store 31 x y) (c : Array Value) (hc : c.size = 19)
    (h : Hd) (v : V) (l : Nat) (hx : a.eval x = .pointer (some ⟨w0.heap.size, 0, none⟩)) (hy : a.eval y = .agg #[.int .u8 h.h.k, .int .u8 h.h.op, .int .i64 h.h.pl, .int .i64 h.h.n, .string h.h.name, .string h.h.arg, .string h.h.exn, .int .i64 h.rho, .slice v.ra h.rhos.length v.rc, .slice v.ea h.e.length v.ec, .int .u8 h.ty.h.k, .int .i64 h.ty.h.r, .slice v.tea h.ty.h.e.length v.tec, .slice v.tka h.ty.ks.length v.tkc, .int .u8 h.re.h.k, .int .i64 h.re.h.r, .slice v.sea h.re.h.e.length v.sec, .slice v.ska h.re.ks.length v.skc, .slice v.ka l v.kc])
    (k : wpList Tryz.prog ops Q rest (a.put op.dst undef) (w0.alloc (.cells #[.int .u8 h.h.k, .int .u8 h.h.op, .int .i64 h.h.pl, .int .i64 h.h.n, .string h.h.name, .string h.h.arg, .string h.h.exn, .int .i64 h.rho, .slice v.ra h.rhos.length v.rc, .slice v.ea h.e.length v.ec, .int .u8 h.ty.h.k, .int .i64 h.ty.h.r, .slice v.tea h.ty.h.e.length v.tec, .slice v.tka h.ty.ks.length v.tkc, .int .u8 h.re.h.k, .int .i64 h.re.h.r, .slice v.sea h.re.h.e.length v.sec, .slice v.ska h.re.ks.length v.skc, .slice v.ka l v.kc] 31))) : wpList Tryz.prog ops Q (op :: rest) a (w0.alloc (.cells c 31)) :=
  wpList_plain hgd fun _ hK => by
    have hst := run_storeVar_new (P := Tryz.prog) w0 31 c #[.int .u8 h.h.k, .int .u8 h.h.op, .int .i64 h.h.pl, .int .i64 h.h.n, .string h.h.name, .string h.h.arg, .string h.h.exn, .int .i64 h.rho, .slice v.ra h.rhos.length v.rc, .slice v.ea h.e.length v.ec, .int .u8 h.ty.h.k, .int .i64 h.ty.h.r, .slice v.tea h.ty.h.e.length v.tec, .slice v.tka h.ty.ks.length v.tkc, .int .u8 h.re.h.k, .int .i64 h.re.h.r, .slice v.sea h.re.h.e.length v.sec, .slice v.ska h.re.ks.length v.skc, .slice v.ka l v.kc] atInfo hc (all_oneCell_toArray (cs := acells h v l) (fun u hu => by
      simp [acells] at hu
      rcases hu with rfl | rfl | rfl | rfl | rfl | rfl | rfl | rfl | rfl | rfl | rfl | rfl | rfl | rfl | rfl | rfl | rfl | rfl | rfl <;> rfl))
    unfold Oper.wp execOp
    simp only [ho, hx, hy, Instr.storeAt, Instr.sureAddr, Sem.run_bind, Sem.run_pure, Result.andThen_ok, hst]
    exact hK _ _ k
end Aterm
end Go.Proofs.YtolpdhkgkjnbfaaGreatDoor
