import Derived.Test.YtkfkpjngiffamaaGreatDoorGC22
import Derived.Test.YtkfkpjngiffamaaGreatDoorGC09
import Derived.StillTailTactics
import Derived.Test.YtkfkpjngiffamaaGreatDoorGC17
import Derived.Laws.Tables
import Derived.Laws.Rows
import Derived.Deep.AppendLies
namespace Go.Proofs.YtkfkpjngiffamaaGreatDoor
open Go.RowKit
set_option linter.unusedVariables false
set_option linter.unusedSimpArgs false
namespace Aterm
open Effect (RdI nget nget_at nget_mem ret_bool)
open Rt (box_new box_at below_then)

theorem sameH_eq (a b : Hd) : sameH a b = (headB a.h b.h && decide (a.rho = b.rho) && decide (a.rhos = b.rhos) && (Effect.withinB a.e b.e && Effect.withinB b.e a.e) && Rt.sameT a.ty b.ty && Rt.sameT a.re b.re) := by
 unfold sameH headB
 rw [Effect.same_iff]
theorem sameK_step (ts us : List AT) (j : Nat) (h : j < ts.length) (h' : j < us.length) : sameK (ts.drop j) (us.drop j) = (sameT (tget ts j) (tget us j) && sameK (ts.drop (j + 1)) (us.drop (j + 1))) := by
 rw [drop_tget ts j h, drop_tget us j h', sameK_cons]
theorem small_ok {h : Hd} {n : Nat} (hs : smallB h n = true) : h.rhos.length ≤ 50 ∧ (h.e.length ≤ 100 ∧ ∀ x ∈ h.e, x.x.size ≤ 100) ∧ Rt.allT (Rt.effB 100000) h.ty = true ∧ Rt.allT (Rt.effB 100000) h.re = true := by
 unfold smallB at hs
 obtain ⟨h1, h2, h3, h4⟩ := long_no (by simpa using hs)
 have up : ∀ t : Rt.RT, Rt.greatT t = false → Rt.allT (Rt.effB 100000) t = true := fun t ht =>
  (Rt.all_imp (fun h n hh => Rt.eff_iff.2 (by have := Rt.eff_iff.1 hh; exact ⟨by omega, fun x hx => by have := this.2 x hx; omega⟩)) _).1 t (Nat.le_refl _) (Rt.small_eff ht).2
 exact ⟨h1.2.2.2, Effect.great_no h2, up _ h3, up _ h4⟩

theorem still_load {ops : Array Oper} {rest : List Oper} {op : Oper} {a : Act} {w : World} {Q : Act → Prop} (hgd : op.guard = none) (x : Operand) (ho : op.op = .load 31 x)
  (b o : Nat) (hx : a.eval x = .pointer (some ⟨b, o, none⟩)) {h : Hd} {v : V} {l : Nat} (hr : w.rangeAt b o (acells h v l))
  (k : wpStill Tryz.prog ops w Q rest (a.put op.dst (.agg #[.int .u8 h.h.k, .int .u8 h.h.op, .int .i64 h.h.pl, .int .i64 h.h.n, .string h.h.name, .string h.h.arg, .string h.h.exn, .int .i64 h.rho, .slice v.ra h.rhos.length v.rc, .slice v.ea h.e.length v.ec, .int .u8 h.ty.h.k, .int .i64 h.ty.h.r, .slice v.tea h.ty.h.e.length v.tec, .slice v.tka h.ty.ks.length v.tkc, .int .u8 h.re.h.k, .int .i64 h.re.h.r, .slice v.sea h.re.h.e.length v.sec, .slice v.ska h.re.ks.length v.skc, .slice v.ka l v.kc]))) : wpStill Tryz.prog ops w Q (op :: rest) a := by
 have hw : Region.wanted op (yielded ops a.tmps) = true := by simp [Region.wanted, hgd]
 refine wpStill_step (fun K hK => ?_)
 rw [if_pos hw]
 unfold Oper.still execOp
 simp only [ho, hx, Instr.loadAt, Instr.sureAddr, Sem.run_bind, Sem.run_pure, Result.andThen_ok, run_loadVar_mid w b o 31 (acells h v l) _ hr Tryz.underlying31 rfl atInfo]
 exact ⟨rfl, hK _ k⟩

set_option maxRecDepth 100000 in
set_option maxHeartbeats 12800000 in
theorem refSame_walk : ∀ (m : Nat) (t u : AT) (h h' : Hd) (v v' : V) (l l' : Nat) (w : World), wt t ≤ m → AtIs w h v l t → AtIs w h' v' l' u → allT smallB t = true → allT smallB u = true →
  Calls Tryz.prog 14 #[.agg #[.int .u8 h.h.k, .int .u8 h.h.op, .int .i64 h.h.pl, .int .i64 h.h.n, .string h.h.name, .string h.h.arg, .string h.h.exn, .int .i64 h.rho, .slice v.ra h.rhos.length v.rc, .slice v.ea h.e.length v.ec, .int .u8 h.ty.h.k, .int .i64 h.ty.h.r, .slice v.tea h.ty.h.e.length v.tec, .slice v.tka h.ty.ks.length v.tkc, .int .u8 h.re.h.k, .int .i64 h.re.h.r, .slice v.sea h.re.h.e.length v.sec, .slice v.ska h.re.ks.length v.skc, .slice v.ka l v.kc], .agg #[.int .u8 h'.h.k, .int .u8 h'.h.op, .int .i64 h'.h.pl, .int .i64 h'.h.n, .string h'.h.name, .string h'.h.arg, .string h'.h.exn, .int .i64 h'.rho, .slice v'.ra h'.rhos.length v'.rc, .slice v'.ea h'.e.length v'.ec, .int .u8 h'.ty.h.k, .int .i64 h'.ty.h.r, .slice v'.tea h'.ty.h.e.length v'.tec, .slice v'.tka h'.ty.ks.length v'.tkc, .int .u8 h'.re.h.k, .int .i64 h'.re.h.r, .slice v'.sea h'.re.h.e.length v'.sec, .slice v'.ska h'.re.ks.length v'.skc, .slice v'.ka l' v'.kc]] w fun e w' => e = .returned (.bool (sameT t u)) ∧ Below w.heap.size w w' := by
 intro m
 induction m with
 | zero => intro t u h h' v v' l l' w hm; have := wt_pos t; omega
 | succ m ih =>
  intro t u h h' v v' l l' w hm hT hU hi hi'
  have hs0 := sameT_eq t u
  rw [hT.head, hU.head, hT.len, hU.len, sameH_eq] at hs0
  rw [allT_eq, Bool.and_eq_true, hT.head] at hi
  rw [allT_eq, Bool.and_eq_true, hU.head] at hi'
  obtain ⟨r1, ⟨e1, _⟩, y1, z1⟩ := small_ok hi.1
  obtain ⟨r2, ⟨e2, _⟩, y2, z2⟩ := small_ok hi'.1
  have hlc := (capA hT).1
  have hlc' := (capA hU).1
  have hei := fun W (hb : Below w.heap.size w W) => equalInts_walk (c := v.rc) (d := v'.rc) (hT.ok.rhos.below hb) (hU.ok.rhos.below hb) (by omega) (by omega)
  have hw1 := fun W (hb : Below w.heap.size w W) => Effect.refWithin_walk (c := v.ec) (d := v'.ec) (hT.ok.eff.below hb).rd (hU.ok.eff.below hb).rd (by omega) (by omega)
  have hw2 := fun W (hb : Below w.heap.size w W) => Effect.refWithin_walk (c := v'.ec) (d := v.ec) (hU.ok.eff.below hb).rd (hT.ok.eff.below hb).rd (by omega) (by omega)
  have hty := fun W (hb : Below w.heap.size w W) => Rt.refSame_walk _ _ _ _ _ _ _ _ _ _ _ _ _ _ _ _ _ W (Nat.le_refl _) (hT.ok.ty.below hb) (hU.ok.ty.below hb) y1 y2
  have hre := fun W (hb : Below w.heap.size w W) => Rt.refSame_walk _ _ _ _ _ _ _ _ _ _ _ _ _ _ _ _ _ W (Nat.le_refl _) (hT.ok.re.below hb) (hU.ok.re.below hb) z1 z2
  have HS := Lib.hid hs0; have HEI := Lib.hid hei; have HW1 := Lib.hid hw1; have HW2 := Lib.hid hw2; have HTY := Lib.hid hty; have HRE := Lib.hid hre
  have HIK := Lib.hid (And.intro hi.2 hi'.2); have HT := Lib.hid hT; have HU := Lib.hid hU; have IH := Lib.hid ih; have HM := Lib.hid hm
  clear hs0 hei hw1 hw2 hty hre hi hi' hT hU ih hm r1 e1 y1 z1 r2 e2 y2 z2
  cases hq : headB h.h h'.h
  ·have HR := Lib.hid (show sameT t u = false by rw [HS.out, hq]; simp)
   have H1 := Lib.hid hq
   clear hq
   go_enter Tryz.func14, Tryz.ntmps14
   go_upto_region 1 with (fail)
   obtain ⟨W0, hW0⟩ : ∃ W0, W0 = (w.alloc (.cells #[.int .u8 h.h.k, .int .u8 h.h.op, .int .i64 h.h.pl, .int .i64 h.h.n, .string h.h.name, .string h.h.arg, .string h.h.exn, .int .i64 h.rho, .slice v.ra h.rhos.length v.rc, .slice v.ea h.e.length v.ec, .int .u8 h.ty.h.k, .int .i64 h.ty.h.r, .slice v.tea h.ty.h.e.length v.tec, .slice v.tka h.ty.ks.length v.tkc, .int .u8 h.re.h.k, .int .i64 h.re.h.r, .slice v.sea h.re.h.e.length v.sec, .slice v.ska h.re.ks.length v.skc, .slice v.ka l v.kc] 31)).alloc (.cells #[.int .u8 h'.h.k, .int .u8 h'.h.op, .int .i64 h'.h.pl, .int .i64 h'.h.n, .string h'.h.name, .string h'.h.arg, .string h'.h.exn, .int .i64 h'.rho, .slice v'.ra h'.rhos.length v'.rc, .slice v'.ea h'.e.length v'.ec, .int .u8 h'.ty.h.k, .int .i64 h'.ty.h.r, .slice v'.tea h'.ty.h.e.length v'.tec, .slice v'.tka h'.ty.ks.length v'.tkc, .int .u8 h'.re.h.k, .int .i64 h'.re.h.r, .slice v'.sea h'.re.h.e.length v'.sec, .slice v'.ska h'.re.ks.length v'.skc, .slice v'.ka l' v'.kc] 31) := ⟨_, rfl⟩
   have hbx1 : Box W0 w.heap.size h v l := by rw [hW0]; exact (box_of (w := w) (h := h) (v := v) (l := l)).below (box_new _)
   have hbx2 : Box W0 (w.heap.size + 1) h' v' l' := by
    rw [hW0]
    have := box_of (w := w.alloc (.cells #[.int .u8 h.h.k, .int .u8 h.h.op, .int .i64 h.h.pl, .int .i64 h.h.n, .string h.h.name, .string h.h.arg, .string h.h.exn, .int .i64 h.rho, .slice v.ra h.rhos.length v.rc, .slice v.ea h.e.length v.ec, .int .u8 h.ty.h.k, .int .i64 h.ty.h.r, .slice v.tea h.ty.h.e.length v.tec, .slice v.tka h.ty.ks.length v.tkc, .int .u8 h.re.h.k, .int .i64 h.re.h.r, .slice v.sea h.re.h.e.length v.sec, .slice v.ska h.re.ks.length v.skc, .slice v.ka l v.kc] 31)) (h := h') (v := v') (l := l') (ty := 31)
    rwa [World.size_alloc] at this
   have hb0 : Below w.heap.size w W0 := by rw [hW0]; exact (box_new _).trans ((box_new _).mono (by simp))
   rw [← hW0]
   clear hW0
   generalize hN2 : w.heap.size + 1 = N2 at hbx2 ⊢
   generalize hN1 : w.heap.size = N1 at hbx1 ⊢
   have HB0 := Lib.hid hb0; have HX1 := Lib.hid hbx1; have HX2 := Lib.hid hbx2; have HC0 := Lib.hid (Below.refl W0.heap.size W0)
   clear hb0 hN1 hN2 hbx1 hbx2
   obtain ⟨a0, a1, a2, a3, a4, a5, a6, a7, a8, a9, a10, a11, a12, a13, a14, a15, a16, a17, a18⟩ := HX1.out.below HC0.out
   obtain ⟨d0, d1, d2, d3, d4, d5, d6, d7, d8, d9, d10, d11, d12, d13, d14, d15, d16, d17, d18⟩ := HX2.out.below HC0.out
   clear a9 a10 a11 a12 a13 a14 a15 a16 a17 a18 d9 d10 d11 d12 d13 d14 d15 d16 d17 d18
   go_wp2_with (refine neq_hd rfl _ _ _ rfl h.h h'.h rfl rfl ?_; rw [H1.out])
   go_ret
   exact ⟨ret_bool HR.out.symm, HB0.out⟩
  have H1 := Lib.hid hq
  have hs1 := HS.out; rw [hq] at hs1; simp only [Bool.true_and] at hs1
  clear hq HS
  have HS := Lib.hid hs1; clear hs1
  by_cases hrr : h.rho = h'.rho
  case neg =>
   have HR := Lib.hid (show sameT t u = false by rw [HS.out, decide_eq_false hrr]; simp)
   have n1 : (h.rho == h'.rho) = false := by simpa using hrr
   have n2 : (h.rho != h'.rho) = true := by simpa using hrr
   clear hrr
   go_enter Tryz.func14, Tryz.ntmps14
   go_upto_region 1 with (fail)
   obtain ⟨W0, hW0⟩ : ∃ W0, W0 = (w.alloc (.cells #[.int .u8 h.h.k, .int .u8 h.h.op, .int .i64 h.h.pl, .int .i64 h.h.n, .string h.h.name, .string h.h.arg, .string h.h.exn, .int .i64 h.rho, .slice v.ra h.rhos.length v.rc, .slice v.ea h.e.length v.ec, .int .u8 h.ty.h.k, .int .i64 h.ty.h.r, .slice v.tea h.ty.h.e.length v.tec, .slice v.tka h.ty.ks.length v.tkc, .int .u8 h.re.h.k, .int .i64 h.re.h.r, .slice v.sea h.re.h.e.length v.sec, .slice v.ska h.re.ks.length v.skc, .slice v.ka l v.kc] 31)).alloc (.cells #[.int .u8 h'.h.k, .int .u8 h'.h.op, .int .i64 h'.h.pl, .int .i64 h'.h.n, .string h'.h.name, .string h'.h.arg, .string h'.h.exn, .int .i64 h'.rho, .slice v'.ra h'.rhos.length v'.rc, .slice v'.ea h'.e.length v'.ec, .int .u8 h'.ty.h.k, .int .i64 h'.ty.h.r, .slice v'.tea h'.ty.h.e.length v'.tec, .slice v'.tka h'.ty.ks.length v'.tkc, .int .u8 h'.re.h.k, .int .i64 h'.re.h.r, .slice v'.sea h'.re.h.e.length v'.sec, .slice v'.ska h'.re.ks.length v'.skc, .slice v'.ka l' v'.kc] 31) := ⟨_, rfl⟩
   have hbx1 : Box W0 w.heap.size h v l := by rw [hW0]; exact (box_of (w := w) (h := h) (v := v) (l := l)).below (box_new _)
   have hbx2 : Box W0 (w.heap.size + 1) h' v' l' := by
    rw [hW0]
    have := box_of (w := w.alloc (.cells #[.int .u8 h.h.k, .int .u8 h.h.op, .int .i64 h.h.pl, .int .i64 h.h.n, .string h.h.name, .string h.h.arg, .string h.h.exn, .int .i64 h.rho, .slice v.ra h.rhos.length v.rc, .slice v.ea h.e.length v.ec, .int .u8 h.ty.h.k, .int .i64 h.ty.h.r, .slice v.tea h.ty.h.e.length v.tec, .slice v.tka h.ty.ks.length v.tkc, .int .u8 h.re.h.k, .int .i64 h.re.h.r, .slice v.sea h.re.h.e.length v.sec, .slice v.ska h.re.ks.length v.skc, .slice v.ka l v.kc] 31)) (h := h') (v := v') (l := l') (ty := 31)
    rwa [World.size_alloc] at this
   have hb0 : Below w.heap.size w W0 := by rw [hW0]; exact (box_new _).trans ((box_new _).mono (by simp))
   rw [← hW0]
   clear hW0
   generalize hN2 : w.heap.size + 1 = N2 at hbx2 ⊢
   generalize hN1 : w.heap.size = N1 at hbx1 ⊢
   have HB0 := Lib.hid hb0; have HX1 := Lib.hid hbx1; have HX2 := Lib.hid hbx2; have HC0 := Lib.hid (Below.refl W0.heap.size W0)
   clear hb0 hN1 hN2 hbx1 hbx2
   obtain ⟨a0, a1, a2, a3, a4, a5, a6, a7, a8, a9, a10, a11, a12, a13, a14, a15, a16, a17, a18⟩ := HX1.out.below HC0.out
   obtain ⟨d0, d1, d2, d3, d4, d5, d6, d7, d8, d9, d10, d11, d12, d13, d14, d15, d16, d17, d18⟩ := HX2.out.below HC0.out
   clear a9 a10 a11 a12 a13 a14 a15 a16 a17 a18 d9 d10 d11 d12 d13 d14 d15 d16 d17 d18
   go_wp2_with (refine neq_hd rfl _ _ _ rfl h.h h'.h rfl rfl ?_; rw [H1.out])
   go_ret
   exact ⟨ret_bool HR.out.symm, HB0.out⟩
  have hs1 := HS.out; rw [decide_eq_true hrr] at hs1; simp only [Bool.true_and] at hs1
  clear HS
  have HS := Lib.hid hs1; clear hs1
  have n1 : (h.rho == h'.rho) = true := by simpa using hrr
  have n2 : (h.rho != h'.rho) = false := by simpa using hrr
  clear hrr
  go_enter Tryz.func14, Tryz.ntmps14
  go_upto_region 1 with (fail)
  obtain ⟨W0, hW0⟩ : ∃ W0, W0 = (w.alloc (.cells #[.int .u8 h.h.k, .int .u8 h.h.op, .int .i64 h.h.pl, .int .i64 h.h.n, .string h.h.name, .string h.h.arg, .string h.h.exn, .int .i64 h.rho, .slice v.ra h.rhos.length v.rc, .slice v.ea h.e.length v.ec, .int .u8 h.ty.h.k, .int .i64 h.ty.h.r, .slice v.tea h.ty.h.e.length v.tec, .slice v.tka h.ty.ks.length v.tkc, .int .u8 h.re.h.k, .int .i64 h.re.h.r, .slice v.sea h.re.h.e.length v.sec, .slice v.ska h.re.ks.length v.skc, .slice v.ka l v.kc] 31)).alloc (.cells #[.int .u8 h'.h.k, .int .u8 h'.h.op, .int .i64 h'.h.pl, .int .i64 h'.h.n, .string h'.h.name, .string h'.h.arg, .string h'.h.exn, .int .i64 h'.rho, .slice v'.ra h'.rhos.length v'.rc, .slice v'.ea h'.e.length v'.ec, .int .u8 h'.ty.h.k, .int .i64 h'.ty.h.r, .slice v'.tea h'.ty.h.e.length v'.tec, .slice v'.tka h'.ty.ks.length v'.tkc, .int .u8 h'.re.h.k, .int .i64 h'.re.h.r, .slice v'.sea h'.re.h.e.length v'.sec, .slice v'.ska h'.re.ks.length v'.skc, .slice v'.ka l' v'.kc] 31) := ⟨_, rfl⟩
  have hbx1 : Box W0 w.heap.size h v l := by rw [hW0]; exact (box_of (w := w) (h := h) (v := v) (l := l)).below (box_new _)
  have hbx2 : Box W0 (w.heap.size + 1) h' v' l' := by
   rw [hW0]
   have := box_of (w := w.alloc (.cells #[.int .u8 h.h.k, .int .u8 h.h.op, .int .i64 h.h.pl, .int .i64 h.h.n, .string h.h.name, .string h.h.arg, .string h.h.exn, .int .i64 h.rho, .slice v.ra h.rhos.length v.rc, .slice v.ea h.e.length v.ec, .int .u8 h.ty.h.k, .int .i64 h.ty.h.r, .slice v.tea h.ty.h.e.length v.tec, .slice v.tka h.ty.ks.length v.tkc, .int .u8 h.re.h.k, .int .i64 h.re.h.r, .slice v.sea h.re.h.e.length v.sec, .slice v.ska h.re.ks.length v.skc, .slice v.ka l v.kc] 31)) (h := h') (v := v') (l := l') (ty := 31)
   rwa [World.size_alloc] at this
  have hb0 : Below w.heap.size w W0 := by rw [hW0]; exact (box_new _).trans ((box_new _).mono (by simp))
  rw [← hW0]
  clear hW0
  generalize hN2 : w.heap.size + 1 = N2 at hbx2 ⊢
  generalize hN1 : w.heap.size = N1 at hbx1 ⊢
  have HB0 := Lib.hid hb0; have HX1 := Lib.hid hbx1; have HX2 := Lib.hid hbx2; have HC0 := Lib.hid (Below.refl W0.heap.size W0)
  clear hb0 hN1 hN2 hbx1 hbx2
  obtain ⟨a0, a1, a2, a3, a4, a5, a6, a7, a8, a9, a10, a11, a12, a13, a14, a15, a16, a17, a18⟩ := HX1.out.below HC0.out
  obtain ⟨d0, d1, d2, d3, d4, d5, d6, d7, d8, d9, d10, d11, d12, d13, d14, d15, d16, d17, d18⟩ := HX2.out.below HC0.out
  clear a9 a10 a11 a12 a13 a14 a15 a16 a17 a18 d9 d10 d11 d12 d13 d14 d15 d16 d17 d18
  go_wp2_with (refine neq_hd rfl _ _ _ rfl h.h h'.h rfl rfl ?_; rw [H1.out])
  clear n1 n2
  refine (HEI.out _ (below_then HB0.out HC0.out HB0.out.size)).mono ?_
  rintro e1 w1 ⟨rfl, hb1⟩
  have HC1 := Lib.hid (HC0.out.trans (hb1.mono HC0.out.size)); clear hb1
  clear a0 a1 a2 a3 a4 a5 a6 a7 a8 d0 d1 d2 d3 d4 d5 d6 d7 d8
  obtain ⟨a0, a1, a2, a3, a4, a5, a6, a7, a8, a9, a10, a11, a12, a13, a14, a15, a16, a17, a18⟩ := HX1.out.below HC1.out
  obtain ⟨d0, d1, d2, d3, d4, d5, d6, d7, d8, d9, d10, d11, d12, d13, d14, d15, d16, d17, d18⟩ := HX2.out.below HC1.out
  clear a0 a1 a2 a3 a4 a5 a6 a7 a8 a10 a11 a12 a13 a14 a15 a16 a17 a18 d0 d1 d2 d3 d4 d5 d6 d7 d8 d10 d11 d12 d13 d14 d15 d16 d17 d18
  cases hq1 : decide (h.rhos = h'.rhos)
  ·have HR := Lib.hid (show sameT t u = false by rw [HS.out, hq1]; simp); clear hq1
   go_wp2_with (fail)
   go_ret
   exact ⟨ret_bool HR.out.symm, below_then HB0.out HC1.out HB0.out.size⟩
  have hs1 := HS.out; rw [hq1] at hs1; simp only [Bool.true_and, Bool.and_true] at hs1
  clear hq1 HS
  have HS := Lib.hid hs1; clear hs1
  go_wp2_with (fail)
  refine (HW1.out _ (below_then HB0.out HC1.out HB0.out.size)).mono ?_
  rintro e2 w2 ⟨rfl, hb2⟩
  have HC2 := Lib.hid (HC1.out.trans (hb2.mono HC1.out.size)); clear hb2
  clear a9 d9
  obtain ⟨a0, a1, a2, a3, a4, a5, a6, a7, a8, a9, a10, a11, a12, a13, a14, a15, a16, a17, a18⟩ := HX1.out.below HC2.out
  obtain ⟨d0, d1, d2, d3, d4, d5, d6, d7, d8, d9, d10, d11, d12, d13, d14, d15, d16, d17, d18⟩ := HX2.out.below HC2.out
  clear a0 a1 a2 a3 a4 a5 a6 a7 a8 a10 a11 a12 a13 a14 a15 a16 a17 a18 d0 d1 d2 d3 d4 d5 d6 d7 d8 d10 d11 d12 d13 d14 d15 d16 d17 d18
  cases hq2 : Effect.withinB h.e h'.e
  ·have HR := Lib.hid (show sameT t u = false by rw [HS.out, hq2]; simp); clear hq2
   go_wp2_with (fail)
   go_ret
   exact ⟨ret_bool HR.out.symm, below_then HB0.out HC2.out HB0.out.size⟩
  have hs2 := HS.out; rw [hq2] at hs2; simp only [Bool.true_and, Bool.and_true] at hs2
  clear hq2 HS
  have HS := Lib.hid hs2; clear hs2
  go_wp2_with (fail)
  refine (HW2.out _ (below_then HB0.out HC2.out HB0.out.size)).mono ?_
  rintro e3 w3 ⟨rfl, hb3⟩
  have HC3 := Lib.hid (HC2.out.trans (hb3.mono HC2.out.size)); clear hb3
  clear a9 d9
  obtain ⟨a0, a1, a2, a3, a4, a5, a6, a7, a8, a9, a10, a11, a12, a13, a14, a15, a16, a17, a18⟩ := HX1.out.below HC3.out
  obtain ⟨d0, d1, d2, d3, d4, d5, d6, d7, d8, d9, d10, d11, d12, d13, d14, d15, d16, d17, d18⟩ := HX2.out.below HC3.out
  clear a0 a1 a2 a3 a4 a5 a6 a7 a8 a9 a14 a15 a16 a17 a18 d0 d1 d2 d3 d4 d5 d6 d7 d8 d9 d14 d15 d16 d17 d18
  cases hq3 : Effect.withinB h'.e h.e
  ·have HR := Lib.hid (show sameT t u = false by rw [HS.out, hq3]; simp); clear hq3
   go_wp2_with (fail)
   go_ret
   exact ⟨ret_bool HR.out.symm, below_then HB0.out HC3.out HB0.out.size⟩
  have hs3 := HS.out; rw [hq3] at hs3; simp only [Bool.true_and, Bool.and_true] at hs3
  clear hq3 HS
  have HS := Lib.hid hs3; clear hs3
  go_wp2_with (fail)
  refine (HTY.out _ (below_then HB0.out HC3.out HB0.out.size)).mono ?_
  rintro e4 w4 ⟨rfl, hb4⟩
  have HC4 := Lib.hid (HC3.out.trans (hb4.mono HC3.out.size)); clear hb4
  clear a10 a11 a12 a13 d10 d11 d12 d13
  obtain ⟨a0, a1, a2, a3, a4, a5, a6, a7, a8, a9, a10, a11, a12, a13, a14, a15, a16, a17, a18⟩ := HX1.out.below HC4.out
  obtain ⟨d0, d1, d2, d3, d4, d5, d6, d7, d8, d9, d10, d11, d12, d13, d14, d15, d16, d17, d18⟩ := HX2.out.below HC4.out
  clear a0 a1 a2 a3 a4 a5 a6 a7 a8 a9 a10 a11 a12 a13 a18 d0 d1 d2 d3 d4 d5 d6 d7 d8 d9 d10 d11 d12 d13 d18
  cases hq4 : Rt.sameT h.ty h'.ty
  ·have HR := Lib.hid (show sameT t u = false by rw [HS.out, hq4]; simp); clear hq4
   go_wp2_with (fail)
   go_ret
   exact ⟨ret_bool HR.out.symm, below_then HB0.out HC4.out HB0.out.size⟩
  have hs4 := HS.out; rw [hq4] at hs4; simp only [Bool.true_and, Bool.and_true] at hs4
  clear hq4 HS
  have HS := Lib.hid hs4; clear hs4
  go_wp2_with (fail)
  refine (HRE.out _ (below_then HB0.out HC4.out HB0.out.size)).mono ?_
  rintro e5 w5 ⟨rfl, hb5⟩
  have HC5 := Lib.hid (HC4.out.trans (hb5.mono HC4.out.size)); clear hb5
  clear a14 a15 a16 a17 d14 d15 d16 d17
  obtain ⟨a0, a1, a2, a3, a4, a5, a6, a7, a8, a9, a10, a11, a12, a13, a14, a15, a16, a17, a18⟩ := HX1.out.below HC5.out
  obtain ⟨d0, d1, d2, d3, d4, d5, d6, d7, d8, d9, d10, d11, d12, d13, d14, d15, d16, d17, d18⟩ := HX2.out.below HC5.out
  clear a0 a1 a2 a3 a4 a5 a6 a7 a8 a9 a10 a11 a12 a13 a14 a15 a16 a17 d0 d1 d2 d3 d4 d5 d6 d7 d8 d9 d10 d11 d12 d13 d14 d15 d16 d17
  cases hq5 : Rt.sameT h.re h'.re
  ·have HR := Lib.hid (show sameT t u = false by rw [HS.out, hq5]; simp); clear hq5
   go_wp2_with (fail)
   go_ret
   exact ⟨ret_bool HR.out.symm, below_then HB0.out HC5.out HB0.out.size⟩
  have hs5 := HS.out; rw [hq5] at hs5; simp only [Bool.true_and, Bool.and_true] at hs5
  clear hq5 HS
  have HS := Lib.hid hs5; clear hs5
  have hsl := HS.out
  by_cases hll : l = l'
  case neg =>
   have HR := Lib.hid (show sameT t u = false by rw [hsl, decide_eq_false hll]; rfl)
   have n1 : ((l : Int) == (l' : Int)) = false := by rw [beq_eq_false_iff_ne]; omega
   have n2 : ((l : Int) != (l' : Int)) = true := by rw [bne, n1]; rfl
   clear hll hsl
   go_wp2_with (fail)
   go_ret
   exact ⟨ret_bool HR.out.symm, below_then HB0.out HC5.out HB0.out.size⟩
  subst hll
  rw [decide_eq_true rfl, Bool.true_and] at hsl
  have HR := Lib.hid hsl
  clear hsl HS
  go_wp2_with (fail)
  go_loopw [5, 68] (fun _ i wr => ∃ j : Nat, j ≤ l ∧ i = .int .i64 j ∧ Hid (sameK t.ks u.ks = sameK (t.ks.drop j) (u.ks.drop j)) ∧ Hid (Below W0.heap.size W0 wr)) (fun _ i _ => l - (intOf i).toNat)
  case atStart => exact ⟨0, Nat.zero_le _, rfl, Lib.hid (by rw [List.drop_zero, List.drop_zero]), HC5⟩
  case round =>
   clear a18 d18
   obtain ⟨j, hj, rfl, HSK, HW⟩ := hrel
   obtain ⟨a0, a1, a2, a3, a4, a5, a6, a7, a8, a9, a10, a11, a12, a13, a14, a15, a16, a17, a18⟩ := HX1.out.below HW.out
   obtain ⟨d0, d1, d2, d3, d4, d5, d6, d7, d8, d9, d10, d11, d12, d13, d14, d15, d16, d17, d18⟩ := HX2.out.below HW.out
   clear a0 a1 a2 a3 a4 a5 a6 a7 a8 a9 a10 a11 a12 a13 a14 a15 a16 a17 d0 d1 d2 d3 d4 d5 d6 d7 d8 d9 d10 d11 d12 d13 d14 d15 d16 d17
   have HWW := Lib.hid (below_then HB0.out HW.out HB0.out.size)
   by_cases hlt : j < l
   ·have hjk : j < t.ks.length := by rw [HT.out.len]; exact hlt
    have hjk' : j < u.ks.length := by rw [HU.out.len]; exact hlt
    have hst := HSK.out
    rw [sameK_step _ _ _ hjk hjk'] at hst
    obtain ⟨b, o, q, hp, hkid, hrg⟩ := (HT.out.kids.stay HWW.out).load j hjk
    obtain ⟨b', o', q', hp', hkid', hrg'⟩ := (HU.out.kids.stay HWW.out).load j hjk'
    rw [hp] at a18
    rw [hp'] at d18
    have hwk := wts_get hjk
    have hwt := wt_ks t
    have hik := allK_get _ hjk HIK.out.1
    have hik' := allK_get _ hjk' HIK.out.2
    have hrd : wr.drew.rangeAt b (o + j * 19) (acells (tget t.ks j).h q (tget t.ks j).ks.length) := range_below hrg (Below.refl _ _).drew
    have hrd' : wr.drew.rangeAt b' (o' + j * 19) (acells (tget u.ks j).h q' (tget u.ks j).ks.length) := range_below hrg' (Below.refl _ _).drew
    have HST := Lib.hid hst; have HK := Lib.hid hkid; have HK' := Lib.hid hkid'; have HI1 := Lib.hid hik; have HI2 := Lib.hid hik'
    have HWK := Lib.hid hwk; have HWT := Lib.hid hwt; have HG := Lib.hid hrd; have HG' := Lib.hid hrd'
    clear hst hkid hkid' hwk hwt hjk hjk' hik hik' hp hp' hrg hrg' hrd hrd'
    go_wp2_with (fail)
    refine wp_region_still_tail 10 (by kernel_rfl) (by kernel_rfl) ?_
    simp only [List.take_succ_cons, List.take_zero, List.drop_succ_cons, List.drop_zero]
    iterate 4 still_step
    refine still_load rfl _ rfl b (o + j * 19) rfl HG.out ?_
    iterate 4 still_step
    refine still_load rfl _ rfl b' (o' + j * 19) rfl HG'.out ?_
    refine wpStill_nil ?_
    go_wp2_with (first | refine at_load rfl _ rfl b (o + j * 19) rfl HG.out ?_ | refine at_load rfl _ rfl b' (o' + j * 19) rfl HG'.out ?_)
    refine (IH.out (tget t.ks j) (tget u.ks j) _ _ q q' _ _ _ (by have := HM.out; have := HWK.out; have := HWT.out; omega) (HK.out.below (Below.refl _ _).drew) (HK'.out.below (Below.refl _ _).drew) HI1.out HI2.out).mono ?_
    rintro e w3 ⟨rfl, hb3⟩
    have HW3 := Lib.hid (HW.out.drew.trans (hb3.mono HW.out.size))
    have HWW3 := Lib.hid (HWW.out.drew.trans (hb3.mono HWW.out.size))
    clear hb3 a18 d18
    cases hs : sameT (tget t.ks j) (tget u.ks j)
    ·have hr2 := HST.out
     rw [hs, Bool.false_and] at hr2
     have HR2 := Lib.hid hr2
     clear hr2 hs
     go_wp2
     go_ret
     exact ⟨ret_bool (by rw [HR.out, HR2.out]), HWW3.out⟩
    ·have hr2 := HST.out
     rw [hs, Bool.true_and] at hr2
     have HR2 := Lib.hid hr2
     clear hr2 hs
     go_wp2
     go_roundw
     case rel => exact ⟨j + 1, by omega, by go_num, HR2, HW3⟩
     case measure => simp [intOf]; omega
   ·obtain rfl : j = l := by omega
    have hr2 := HSK.out
    rw [List.drop_eq_nil_of_le (by rw [HT.out.len]; exact Nat.le_refl _), sameK_nil] at hr2
    have HR2 := Lib.hid hr2
    clear hr2
    go_wp2_with (fail)
    go_ret
    exact ⟨ret_bool (by rw [HR.out, HR2.out]), HWW.out⟩
end Aterm
end Go.Proofs.YtkfkpjngiffamaaGreatDoor
namespace Go.Proofs.YtkfkpjngiffamaaGreatDoor
open Go.RowKit
set_option linter.unusedVariables false
set_option linter.unusedSimpArgs false
namespace Aterm
theorem rtK_nil (us : List Rt.RT) : Rt.sameK [] us = true := by conv => lhs; unfold Rt.sameK
theorem rtK_cons (t u : Rt.RT) (ts us : List Rt.RT) : Rt.sameK (t :: ts) (u :: us) = (Rt.sameT t u && Rt.sameK ts us) := by conv => lhs; unfold Rt.sameK
theorem rt_self : ∀ m : Nat, (∀ t : Rt.RT, Rt.wt t ≤ m → Rt.sameT t t = true) ∧ (∀ ts : List Rt.RT, Rt.wts ts ≤ m → Rt.sameK ts ts = true) := by
 intro m
 induction m with
 | zero =>
  refine ⟨fun t h => by have := Rt.wt_pos t; omega, fun ts h => ?_⟩
  cases ts with
  | nil => exact rtK_nil _
  | cons t ts => rw [Rt.wts_cons] at h; have := Rt.wt_pos t; omega
 | succ m ih =>
  have hT : ∀ t : Rt.RT, Rt.wt t ≤ m + 1 → Rt.sameT t t = true := by
   intro t h
   have hk := Rt.wt_ks t
   rw [Rt.sameT_eq, ih.2 t.ks (by omega)]
   simp
  refine ⟨hT, fun ts => ?_⟩
  induction ts with
  | nil => intro _; exact rtK_nil _
  | cons t ts ihs =>
   intro h
   rw [Rt.wts_cons] at h
   rw [rtK_cons, hT t (by omega), ihs (by omega)]; rfl
theorem atK_cons (t u : AT) (ts us : List AT) : sameK (t :: ts) (u :: us) = (sameT t u && sameK ts us) := by conv => lhs; unfold sameK
theorem atK_nil (us : List AT) : sameK [] us = true := by unfold sameK; rfl
theorem sameH_of (a b : Hd) : sameH a b = (headB a.h b.h && decide (a.rho = b.rho) && decide (a.rhos = b.rhos) && decide (Effect.ofA a.e = Effect.ofA b.e) && Rt.sameT a.ty b.ty && Rt.sameT a.re b.re) := rfl
theorem at_self : ∀ m : Nat, (∀ t : AT, wt t ≤ m → sameT t t = true) ∧ (∀ ts : List AT, wts ts ≤ m → sameK ts ts = true) := by
 intro m
 induction m with
 | zero =>
  refine ⟨fun t h => by have := wt_pos t; omega, fun ts h => ?_⟩
  cases ts with
  | nil => exact atK_nil _
  | cons t ts => rw [wts_cons] at h; have := wt_pos t; omega
 | succ m ih =>
  have hT : ∀ t : AT, wt t ≤ m + 1 → sameT t t = true := by
   intro t h
   have hk := wt_ks t
   rw [sameT_eq, ih.2 t.ks (by omega), sameH_of, (rt_self _).1 t.h.ty (Nat.le_refl _), (rt_self _).1 t.h.re (Nat.le_refl _)]
   unfold headB
   simp
  refine ⟨hT, fun ts => ?_⟩
  induction ts with
  | nil => intro _; exact atK_nil _
  | cons t ts ihs =>
   intro h
   rw [wts_cons] at h
   rw [atK_cons, hT t (by omega), ihs (by omega)]; rfl
theorem same_self (t : AT) : sameT t t = true := (at_self _).1 t (Nat.le_refl _)
end Aterm
end Go.Proofs.YtkfkpjngiffamaaGreatDoor
namespace Go.Proofs.YtkfkpjngiffamaaGreatDoor
open Go.RowKit
set_option linter.unusedVariables false
set_option linter.unusedSimpArgs false
namespace Disp
open Aterm (AT Hd tget wt wts nodeB allT allK)
open Effect (At ofA textE textA digs atomB)
open Types (jb bl wInt wOpen wShut wStar wRef wArrow bl_jb bl_inj bl_app bl_cons bl_one bl_append jb_one)
open Rt (wAt wBang kw)
open Words (nameB exnB wordB ints)
open SE (atom node)

def hw : SE → ByteArray
 | .atom w => w
 | .node _ => wOpen
def KW (w : ByteArray) : Prop := w = wOpen ∨ (48 ≤ fst w ∧ fst w ≤ 57) ∨ nameB w = true
theorem kw_sx {t : AT} (h : allT nodeB t = true) : KW (hw (sx t)) := by
 have N := nd_of (top_all h)
 rw [sx_eq]
 unfold sxH
 by_cases h1 : t.h.h.k = 1
 ·rw [if_pos h1]; exact .inr (.inl (digs_fst N.n.1))
 rw [if_neg h1]
 by_cases h2 : t.h.h.k = 2
 ·rw [if_pos h2]; exact .inr (.inr (iff_pos N.name (.inl h2)))
 rw [if_neg h2]
 exact .inl rfl
theorem kw_digs {n : Int} (h : 0 ≤ n) : KW (digs n) := .inr (.inl (digs_fst h))
def spB (s : ByteArray) : Bool := decide (s ≠ wOpen) && !(decide (48 ≤ fst s ∧ fst s ≤ 57)) && !nameB s
theorem kw_ne {w s : ByteArray} (h : KW w) (hs : spB s = true) : w ≠ s := by
 rintro rfl
 unfold spB at hs
 rw [Bool.and_eq_true, Bool.and_eq_true] at hs
 rcases h with h | h | h
 ·exact of_decide_eq_true hs.1.1 h
 ·have := hs.1.2
  rw [decide_eq_true h] at this
  cases this
 ·have := hs.2
  rw [h] at this
  cases this
theorem sFst : spB wFst = true := by kernel_rfl
theorem sSnd : spB wSnd = true := by kernel_rfl
theorem sRef : spB wRef = true := by kernel_rfl
theorem sBang : spB wBang = true := by kernel_rfl
theorem sFn : spB wFn = true := by kernel_rfl
theorem sLet : spB wLet = true := by kernel_rfl
theorem sLetrec : spB wLetrec = true := by kernel_rfl
theorem sIf : spB wIf = true := by kernel_rfl
theorem sRaise : spB wRaise = true := by kernel_rfl
theorem sTry : spB wTry = true := by kernel_rfl
theorem sComma : spB wComma = true := by kernel_rfl
theorem sPut : spB wPut = true := by kernel_rfl
theorem sBrO : spB wBrO = true := by kernel_rfl
theorem sAdd : spB wAdd = true := by kernel_rfl
theorem sSub : spB wSub = true := by kernel_rfl
theorem sStar : spB wStar = true := by kernel_rfl
theorem sLess : spB wLess = true := by kernel_rfl
theorem sIs : spB wIs = true := by kernel_rfl
theorem kw_region : KW wRegion := .inr (.inr (by kernel_rfl))
def kindY (x y : ByteArray) (n : Nat) : Int := if y = wComma then 3 else if y = wPut then 8 else if y = wBrO then 18 else if y = wAdd then 9 else if y = wSub then 9 else if y = wStar then 9 else if y = wLess then 9 else if y = wIs then 9 else if x = wRegion ∧ n = 4 then 17 else 10
def kindX (x y : ByteArray) (n : Nat) : Int := if x = wFst then 4 else if x = wSnd then 5 else if x = wRef then 6 else if x = wBang then 7 else if x = wFn then 11 else if x = wLet then 12 else if x = wLetrec then 13 else if x = wIf then 14 else if x = wRaise then 15 else if x = wTry then 16 else kindY x y n
def kindOf : SE → Int
 | .atom w => if fst w ≤ 57 then 1 else 2
 | .node l => kindX (hw (kS l 0)) (hw (kS l 1)) l.length
theorem kindX_kid {x : ByteArray} (h : KW x) (y : ByteArray) (n : Nat) : kindX x y n = kindY x y n := by
 unfold kindX
 rw [if_neg (kw_ne h sFst), if_neg (kw_ne h sSnd), if_neg (kw_ne h sRef), if_neg (kw_ne h sBang), if_neg (kw_ne h sFn), if_neg (kw_ne h sLet), if_neg (kw_ne h sLetrec), if_neg (kw_ne h sIf), if_neg (kw_ne h sRaise), if_neg (kw_ne h sTry)]
theorem kindY_kid {y : ByteArray} (h : KW y) (x : ByteArray) (n : Nat) : kindY x y n = if x = wRegion ∧ n = 4 then 17 else 10 := by
 unfold kindY
 rw [if_neg (kw_ne h sComma), if_neg (kw_ne h sPut), if_neg (kw_ne h sBrO), if_neg (kw_ne h sAdd), if_neg (kw_ne h sSub), if_neg (kw_ne h sStar), if_neg (kw_ne h sLess), if_neg (kw_ne h sIs)]
theorem kindY_sign (x : ByteArray) (n : Nat) (op : Int) : kindY x (signW op) n = 9 := by
 unfold signW
 by_cases h1 : op = 1
 ·rw [if_pos h1]; rfl
 rw [if_neg h1]
 by_cases h2 : op = 2
 ·rw [if_pos h2]; rfl
 rw [if_neg h2]
 by_cases h3 : op = 3
 ·rw [if_pos h3]; rfl
 rw [if_neg h3]
 by_cases h4 : op = 4
 ·rw [if_pos h4]; rfl
 rw [if_neg h4]; rfl
theorem kind_sx {t : AT} (h : allT nodeB t = true) : kindOf (sx t) = t.h.h.k := by
 have N := nd_of (top_all h)
 have S := fun i (hi : i < t.ks.length) => kS_get hi
 rw [sx_eq]
 unfold sxH inS
 rcases kinds h with ⟨hk, hl⟩ | ⟨hk, hl⟩ | ⟨hk, hl⟩ | ⟨hk, hl⟩
 ·rcases hk with hk | hk | hk
  ·rw [if_pos hk, hk]
   unfold kindOf
   exact if_pos (digs_fst N.n.1).2
  ·have hf := name_fst (iff_pos N.name (by omega))
   rw [if_neg (by omega), if_pos hk, hk]
   unfold kindOf
   exact if_neg (by omega)
  ·have hn : KW t.h.h.name := .inr (.inr (iff_pos N.name (by omega)))
   simp only [hk, ↓reduceIte, Int.reduceEq]
   show kindX t.h.h.name wBrO _ = 18
   rw [kindX_kid hn]; rfl
 ·have s0 := S 0 (by omega)
  rcases hk with hk | hk | hk | hk | hk | hk | hk
  ·simp only [hk, ↓reduceIte, Int.reduceEq]; rfl
  ·simp only [hk, ↓reduceIte, Int.reduceEq]; rfl
  ·simp only [hk, ↓reduceIte, Int.reduceEq]; rfl
  ·simp only [hk, ↓reduceIte, Int.reduceEq]; rfl
  ·simp only [hk, ↓reduceIte, Int.reduceEq]; rfl
  ·simp only [hk, ↓reduceIte, Int.reduceEq]; rfl
  ·have hd := kw_digs N.rho.1
   simp only [hk, ↓reduceIte, Int.reduceEq]
   show kindX wRegion (digs t.h.rho) 4 = 17
   rw [kindX_kid kw_region, kindY_kid hd]; rfl
 ·have s0 := S 0 (by omega)
  have s1 := S 1 (by omega)
  have h0 := kw_sx (kid_all h (i := 0) (by omega))
  have h1 := kw_sx (kid_all h (i := 1) (by omega))
  rcases hk with hk | hk | hk | hk | hk | hk | hk
  ·simp only [hk, ↓reduceIte, Int.reduceEq, s0, s1]
   show kindX (hw (sx (tget t.ks 0))) wComma _ = 3
   rw [kindX_kid h0]; rfl
  ·simp only [hk, ↓reduceIte, Int.reduceEq, s0, s1]
   show kindX (hw (sx (tget t.ks 0))) wPut _ = 8
   rw [kindX_kid h0]; rfl
  ·simp only [hk, ↓reduceIte, Int.reduceEq, s0, s1]
   show kindX (hw (sx (tget t.ks 0))) (signW t.h.h.op) _ = 9
   rw [kindX_kid h0, kindY_sign]
  ·simp only [hk, ↓reduceIte, Int.reduceEq, s0, s1]
   show kindX (hw (sx (tget t.ks 0))) (hw (sx (tget t.ks 1))) 2 = 10
   rw [kindX_kid h0, kindY_kid h1]
   exact if_neg (fun e => by omega)
  ·simp only [hk, ↓reduceIte, Int.reduceEq]; rfl
  ·simp only [hk, ↓reduceIte, Int.reduceEq]; rfl
  ·simp only [hk, ↓reduceIte, Int.reduceEq]; rfl
 ·simp only [hk, ↓reduceIte, Int.reduceEq]; rfl

theorem atom_inj {x y : At} (hx : atomB x = true) (hy : atomB y = true) (hk : aKey x = aKey y) (hv : aVal x = aVal y) : x = y := by
 have d1 : wGetA ≠ wPutA := by decide
 have d2 : wGetA ≠ wExnA := by decide
 have d3 : wPutA ≠ wExnA := by decide
 obtain ⟨k, r, e⟩ := x
 obtain ⟨k', r', e'⟩ := y
 unfold aKey at hk
 unfold aVal at hv
 rcases atom_facts hx with ⟨h1, h2, h3⟩ | ⟨h1, h2, h3⟩ <;> rcases atom_facts hy with ⟨h4, h5, h6⟩ | ⟨h4, h5, h6⟩
 all_goals simp only at h1 h2 h3 h4 h5 h6 hk hv
 ·subst h1 h2 h4 h5
  simp at hv
  rw [hv]
 ·subst h1
  rcases h4 with h4 | h4
  ·subst h4; simp at hk; exact absurd hk.symm d2
  ·subst h4; simp at hk; exact absurd hk.symm d3
 ·subst h4
  rcases h1 with h1 | h1
  ·subst h1; simp at hk; exact absurd hk d2
  ·subst h1; simp at hk; exact absurd hk d3
 ·subst h3 h6
  rcases h1 with h1 | h1 <;> rcases h4 with h4 | h4
  ·subst h1 h4; simp at hv; rw [digs_inj h2 h5 hv]
  ·subst h1 h4; simp at hk; exact absurd hk d1
  ·subst h1 h4; simp at hk; exact absurd hk.symm d1
  ·subst h1 h4; simp at hv; rw [digs_inj h2 h5 hv]
def NoC (r : List SE) : Prop := ∀ q, r ≠ atom wComma :: q
theorem noC_cons {x : SE} {q : List SE} (h : hw x ≠ wComma) : NoC (x :: q) := fun q' e => h (by injection e with e1 _; rw [e1]; rfl)
theorem tail_inj : ∀ {l m : List At} {r s : List SE}, (∀ x ∈ l, atomB x = true) → (∀ x ∈ m, atomB x = true) → NoC r → NoC s → tailA l ++ r = tailA m ++ s → l = m ∧ r = s
 | [], [], r, s, _, _, _, _, h => ⟨rfl, h⟩
 | [], y :: ys, r, s, _, _, hr, _, h => by rw [tailA, tailA] at h; exact absurd h (hr _)
 | x :: xs, [], r, s, _, _, _, hs, h => by rw [tailA, tailA] at h; exact absurd h.symm (hs _)
 | x :: xs, y :: ys, r, s, hl, hm, hr, hs, h => by
  rw [tailA, tailA] at h
  simp only [List.cons_append, List.cons.injEq, SE.atom.injEq, true_and] at h
  obtain ⟨h1, h2, h3⟩ := h
  obtain ⟨h4, h5⟩ := tail_inj (fun z hz => hl z (List.mem_cons_of_mem _ hz)) (fun z hz => hm z (List.mem_cons_of_mem _ hz)) hr hs h3
  exact ⟨by rw [atom_inj (hl x List.mem_cons_self) (hm y List.mem_cons_self) h1 h2, h4], h5⟩
theorem key_none (x : At) : aKey x ≠ wNone := by
 have d1 : wGetA ≠ wNone := by decide
 have d2 : wPutA ≠ wNone := by decide
 have d3 : wExnA ≠ wNone := by decide
 unfold aKey
 by_cases h1 : x.k = 1
 ·rw [if_pos h1]; exact d1
 rw [if_neg h1]
 by_cases h2 : x.k = 2
 ·rw [if_pos h2]; exact d2
 rw [if_neg h2]; exact d3
theorem eff_inj {l m : List At} {r s : List SE} (hl : ∀ x ∈ l, atomB x = true) (hm : ∀ x ∈ m, atomB x = true) (hr : NoC r) (hs : NoC s) (h : effA l ++ r = effA m ++ s) : l = m ∧ r = s := by
 cases l with
 | nil =>
  cases m with
  | nil => rw [effA] at h; simp only [List.cons_append, List.nil_append, List.cons.injEq, true_and] at h; exact ⟨rfl, h⟩
  | cons y ys => rw [effA, effA] at h; simp only [List.cons_append, List.cons.injEq, SE.atom.injEq] at h; exact absurd h.1.symm (key_none y)
 | cons x xs =>
  cases m with
  | nil => rw [effA, effA] at h; simp only [List.cons_append, List.cons.injEq, SE.atom.injEq] at h; exact absurd h.1 (key_none x)
  | cons y ys =>
   rw [effA, effA] at h
   simp only [List.cons_append, List.cons.injEq, SE.atom.injEq] at h
   obtain ⟨h1, h2, h3⟩ := h
   obtain ⟨h4, h5⟩ := tail_inj (fun z hz => hl z (List.mem_cons_of_mem _ hz)) (fun z hz => hm z (List.mem_cons_of_mem _ hz)) hr hs h3
   exact ⟨by rw [atom_inj (hl x List.mem_cons_self) (hm y List.mem_cons_self) h1 h2, h4], h5⟩
theorem effO_inj {l m : List At} {r s : List SE} (hr : NoC r) (hs : NoC s) (h : effA (ofA l) ++ r = effA (ofA m) ++ s) : ofA l = ofA m ∧ r = s :=
 eff_inj (fun x hx => ((Effect.mem_of l x).1 hx).2) (fun x hx => ((Effect.mem_of m x).1 hx).2) hr hs h
theorem rhos_inj {l m : List Int} {r s : List SE} (hl : ∀ x ∈ l, 0 ≤ x) (hm : ∀ x ∈ m, 0 ≤ x) (h : rhosA l ++ r = rhosA m ++ s) : l = m ∧ r = s := by
 have hc : ∀ n : Int, 0 ≤ n → digs n ≠ wBrC := fun n hn e => by
  have := digs_fst hn
  rw [e] at this
  have e2 : fst wBrC = 93 := by decide
  omega
 unfold rhosA at h
 simp only [List.cons_append, List.cons.injEq, true_and, List.append_assoc, List.nil_append] at h
 induction l generalizing m with
 | nil =>
  cases m with
  | nil => simp only [List.map_nil, List.nil_append, List.cons.injEq, true_and] at h; exact ⟨rfl, h⟩
  | cons y ys => simp only [List.map_nil, List.map_cons, List.nil_append, List.cons_append, List.cons.injEq, SE.atom.injEq] at h; exact absurd h.1.symm (hc y (hm y List.mem_cons_self))
 | cons x xs ih =>
  cases m with
  | nil => simp only [List.map_nil, List.map_cons, List.nil_append, List.cons_append, List.cons.injEq, SE.atom.injEq] at h; exact absurd h.1 (hc x (hl x List.mem_cons_self))
  | cons y ys =>
   simp only [List.map_cons, List.cons_append, List.cons.injEq, SE.atom.injEq] at h
   obtain ⟨h4, h5⟩ := ih (fun z hz => hl z (List.mem_cons_of_mem _ hz)) (m := ys) (fun z hz => hm z (List.mem_cons_of_mem _ hz)) h.2
   exact ⟨by rw [digs_inj (hl x List.mem_cons_self) (hm y List.mem_cons_self) h.1, h4], h5⟩

theorem rt_one {l : List Rt.RT} (h : l.length = 1) : l = [Rt.tget l 0] := by
 match l, h with
 | [a], _ => rfl
theorem rt_two {l : List Rt.RT} (h : l.length = 2) : l = [Rt.tget l 0, Rt.tget l 1] := by
 match l, h with
 | [a, b], _ => rfl
def KR (w : ByteArray) : Prop := w = wInt ∨ w = wOpen
theorem kr_sx {t : Rt.RT} : KR (hw (sxR t)) := by
 rw [sxR_eq]
 unfold rhS
 by_cases h1 : t.h.k = 1
 ·rw [if_pos h1]; exact .inl rfl
 ·rw [if_neg h1]; exact .inr rfl
theorem kr_ne {w : ByteArray} (h : KR w) : w ≠ wRef := by
 rcases h with rfl | rfl
 ·decide
 ·decide
def kindR : SE → Int
 | .atom _ => 1
 | .node l => if hw (kS l 0) = wRef then 3 else if hw (kS l 1) = wStar then 2 else 4
theorem kind_sxR {t : Rt.RT} (h : Rt.mayT t = true) : kindR (sxR t) = t.h.k := by
 obtain ⟨hk, -⟩ := Rt.may_node h
 rw [sxR_eq]
 unfold rhS inR
 rcases hk with ⟨hk, hl, -⟩ | ⟨hk, hl⟩ | ⟨hk, hl⟩
 ·rw [if_pos hk, hk]; rfl
 ·rw [if_neg (by omega), if_neg (by omega), if_pos hk, hk]; rfl
 ·have k0 := kR_get (show 0 < t.ks.length by omega)
  have h0 := kr_ne (kr_sx (t := Rt.tget t.ks 0))
  rcases hk with hk | hk
  ·rw [if_neg (by omega), if_pos hk, hk, k0]
   show (if hw (sxR (Rt.tget t.ks 0)) = wRef then (3 : Int) else if wStar = wStar then 2 else 4) = 2
   rw [if_neg h0]; rfl
  ·rw [if_neg (by omega), if_neg (by omega), if_neg (by omega), hk, k0]
   show (if hw (sxR (Rt.tget t.ks 0)) = wRef then (3 : Int) else if wArrow = wStar then 2 else 4) = 4
   rw [if_neg h0]; rfl
theorem rt_ext {t u : Rt.RT} (h1 : t.h.k = u.h.k) (h2 : t.h.r = u.h.r) (h3 : t.h.e = u.h.e) (h4 : t.ks = u.ks) : t = u := by
 obtain ⟨⟨k, r, e⟩, l⟩ := t
 obtain ⟨⟨k', r', e'⟩, l'⟩ := u
 simp only [Rt.RT.h, Rt.RT.ks] at *
 subst h1 h2 h3 h4
 rfl
theorem noC_at {q : List SE} : NoC (atom wAt :: q) := noC_cons (by decide)
theorem ty_inj : ∀ m : Nat, ∀ t u : Rt.RT, Rt.wt t ≤ m → Rt.mayT t = true → Rt.mayT u = true → sxR t = sxR u → t = u := by
 intro m
 induction m with
 | zero => intro t u h; have := Rt.wt_pos t; omega
 | succ m ih =>
  intro t u h ht hu e
  have hkk : t.h.k = u.h.k := by rw [← kind_sxR ht, ← kind_sxR hu, e]
  obtain ⟨hk, hr, hn, he, -⟩ := Rt.may_node ht
  obtain ⟨hk', hr', hn', he', -⟩ := Rt.may_node hu
  rw [sxR_eq, sxR_eq] at e
  unfold rhS inR at e
  rcases hk with ⟨hk, hl, h0⟩ | ⟨hk, hl⟩ | ⟨hk, hl⟩
  ·have : u.ks.length = 0 ∧ u.h.r = 0 := by omega
   exact rt_ext hkk (by omega) (by rw [hn (by omega), hn' (by omega)]) (by rw [nil_of hl, nil_of this.1])
  ·have hl' : u.ks.length = 1 := by omega
   rw [if_neg (by omega), if_neg (by omega), if_pos hk, if_neg (by omega), if_neg (by omega), if_pos (by omega), kR_get (show 0 < t.ks.length by omega), kR_get (show 0 < u.ks.length by omega)] at e
   simp only [SE.node.injEq, List.cons.injEq, SE.atom.injEq, true_and, and_true] at e
   have e0 := ih _ _ (by have := Rt.wt1 hl; omega) (Rt.may_kid ht (by omega)) (Rt.may_kid hu (by omega)) e.1
   exact rt_ext hkk (digs_inj hr hr' e.2) (by rw [hn (by omega), hn' (by omega)]) (by rw [rt_one hl, rt_one hl', e0])
  ·have hl' : u.ks.length = 2 := by omega
   rcases hk with hk | hk
   ·rw [if_neg (by omega), if_pos hk, if_neg (by omega), if_pos (by omega), kR_get (show 0 < t.ks.length by omega), kR_get (show 0 < u.ks.length by omega), kR_get (show 1 < t.ks.length by omega), kR_get (show 1 < u.ks.length by omega)] at e
    simp only [SE.node.injEq, List.cons.injEq, SE.atom.injEq, true_and, and_true] at e
    have e0 := ih _ _ (by have := Rt.wt2 hl; omega) (Rt.may_kid ht (by omega)) (Rt.may_kid hu (by omega)) e.1
    have e1 := ih _ _ (by have := Rt.wt2 hl; omega) (Rt.may_kid ht (by omega)) (Rt.may_kid hu (by omega)) e.2.1
    exact rt_ext hkk (digs_inj hr hr' e.2.2) (by rw [hn (by omega), hn' (by omega)]) (by rw [rt_two hl, rt_two hl', e0, e1])
   ·rw [if_neg (by omega), if_neg (by omega), if_neg (by omega), if_neg (by omega), if_neg (by omega), if_neg (by omega), kR_get (show 0 < t.ks.length by omega), kR_get (show 0 < u.ks.length by omega), kR_get (show 1 < t.ks.length by omega), kR_get (show 1 < u.ks.length by omega)] at e
    simp only [SE.node.injEq, List.cons.injEq, true_and] at e
    obtain ⟨a0, a1, a2⟩ := e
    obtain ⟨a3, a4⟩ := effO_inj noC_at noC_at a2
    simp only [List.cons.injEq, SE.atom.injEq, true_and, and_true] at a4
    have e0 := ih _ _ (by have := Rt.wt2 hl; omega) (Rt.may_kid ht (by omega)) (Rt.may_kid hu (by omega)) a0
    have e1 := ih _ _ (by have := Rt.wt2 hl; omega) (Rt.may_kid ht (by omega)) (Rt.may_kid hu (by omega)) a1
    exact rt_ext hkk (digs_inj hr hr' a4) (by rw [he, he', a3]) (by rw [rt_two hl, rt_two hl', e0, e1])
theorem tyS_inj {t u : Rt.RT} (ht : Rt.mayT t = true) (hu : Rt.mayT u = true) (e : sxR t = sxR u) : t = u := ty_inj _ t u (Nat.le_refl _) ht hu e

def zeroH (h : Hd) : Hd := { h with h := { h.h with pl := 0 } }
mutual
def zeroT : AT → AT
 | .node h l => .node (zeroH h) (zeroK l)
def zeroK : List AT → List AT
 | [] => []
 | t :: ts => zeroT t :: zeroK ts
end
theorem zeroT_eq (t : AT) : zeroT t = .node (zeroH t.h) (zeroK t.ks) := by cases t; rw [zeroT]; rfl
theorem zeroK_map : ∀ ts : List AT, zeroK ts = ts.map zeroT
 | [] => by rw [zeroK]; rfl
 | t :: ts => by rw [zeroK, zeroK_map ts]; rfl
theorem zeroT_h (t : AT) : (zeroT t).h = zeroH t.h := by rw [zeroT_eq]; rfl
theorem zeroT_ks (t : AT) : (zeroT t).ks = zeroK t.ks := by rw [zeroT_eq]; rfl
theorem zero_kids {l k : List AT} (hl : l.length = k.length) (h : ∀ i, i < l.length → zeroT (tget l i) = zeroT (tget k i)) : zeroK l = zeroK k := by
 rw [zeroK_map, zeroK_map]
 apply List.ext_getElem?
 intro i
 rw [List.getElem?_map, List.getElem?_map]
 by_cases hi : i < l.length
 ·rw [Aterm.tget_at hi, Aterm.tget_at (by omega)]
  simp only [Option.map_some, h i hi]
 ·rw [List.getElem?_eq_none (by omega), List.getElem?_eq_none (by omega)]
theorem head_eq {a b : Hd} (A : Nd a) (B : Nd b) (hk : a.h.k = b.h.k) (h1 : a.h.k = 1 → a.h.n = b.h.n) (h9 : a.h.k = 9 → a.h.op = b.h.op)
  (hnm : a.h.k = 2 ∨ a.h.k = 12 ∨ a.h.k = 13 ∨ a.h.k = 18 → a.h.name = b.h.name) (har : a.h.k = 11 ∨ a.h.k = 13 ∨ a.h.k = 16 → a.h.arg = b.h.arg) (hex : a.h.k = 15 ∨ a.h.k = 16 → a.h.exn = b.h.exn)
  (hrho : a.h.k = 3 ∨ a.h.k = 6 ∨ a.h.k = 11 ∨ a.h.k = 13 ∨ a.h.k = 17 ∨ a.h.k = 18 → a.rho = b.rho) (hrs : a.h.k = 13 ∨ a.h.k = 18 → a.rhos = b.rhos) (he : a.h.k = 11 ∨ a.h.k = 13 ∨ a.h.k = 18 → ofA a.e = ofA b.e)
  (hty : a.h.k = 11 ∨ a.h.k = 13 ∨ a.h.k = 15 → a.ty = b.ty) (hre : a.h.k = 13 → a.re = b.re) : zeroH a = zeroH b := by
 have g1 : a.h.n = b.h.n := by
  by_cases c : a.h.k = 1
  ·exact h1 c
  ·rw [A.n.2 c, B.n.2 (by omega)]
 have g2 : a.h.op = b.h.op := by
  by_cases c : a.h.k = 9
  ·exact h9 c
  ·rw [iff_neg A.op c, iff_neg B.op (by omega)]
 have g3 : a.h.name = b.h.name := by
  by_cases c : a.h.k = 2 ∨ a.h.k = 12 ∨ a.h.k = 13 ∨ a.h.k = 18
  ·exact hnm c
  ·rw [iff_neg A.name c, iff_neg B.name (by omega)]
 have g4 : a.h.arg = b.h.arg := by
  by_cases c : a.h.k = 11 ∨ a.h.k = 13 ∨ a.h.k = 16
  ·exact har c
  ·rw [iff_neg A.arg c, iff_neg B.arg (by omega)]
 have g5 : a.h.exn = b.h.exn := by
  by_cases c : a.h.k = 15 ∨ a.h.k = 16
  ·exact hex c
  ·rw [iff_neg A.exn c, iff_neg B.exn (by omega)]
 have g6 : a.rho = b.rho := by
  by_cases c : a.h.k = 3 ∨ a.h.k = 6 ∨ a.h.k = 11 ∨ a.h.k = 13 ∨ a.h.k = 17 ∨ a.h.k = 18
  ·exact hrho c
  ·rw [A.rho.2 c, B.rho.2 (by omega)]
 have g7 : a.rhos = b.rhos := by
  by_cases c : a.h.k = 13 ∨ a.h.k = 18
  ·exact hrs c
  ·rw [A.rhos.2 c, B.rhos.2 (by omega)]
 have g8 : a.e = b.e := by
  by_cases c : a.h.k = 11 ∨ a.h.k = 13 ∨ a.h.k = 18
  ·rw [A.e.1, B.e.1, he c]
  ·rw [A.e.2 c, B.e.2 (by omega)]
 have g9 : a.ty = b.ty := by
  by_cases c : a.h.k = 11 ∨ a.h.k = 13 ∨ a.h.k = 15
  ·exact hty c
  ·rw [iff_neg A.ty c, iff_neg B.ty (by omega)]
 have g10 : a.re = b.re := by
  by_cases c : a.h.k = 13
  ·exact hre c
  ·rw [iff_neg A.re c, iff_neg B.re (by omega)]
 obtain ⟨⟨k, op, pl, n, nm, ar, ex⟩, rho, rhos, e, ty, re⟩ := a
 obtain ⟨⟨k', op', pl', n', nm', ar', ex'⟩, rho', rhos', e', ty', re'⟩ := b
 simp only at hk g1 g2 g3 g4 g5 g6 g7 g8 g9 g10
 subst hk g1 g2 g3 g4 g5 g6 g7 g8 g9 g10
 rfl
end Disp
end Go.Proofs.YtkfkpjngiffamaaGreatDoor
namespace Go.Proofs.YtkfkpjngiffamaaGreatDoor
open Go.RowKit
set_option linter.unusedVariables false
set_option linter.unusedSimpArgs false
namespace Disp
open Aterm
open Effect (lt_of_block heap_alloc_new)
open Rt (box_new box_at below_then)
open Types (Reads veil veil_to veil_at veil_own veil_seen)

theorem veil_fromA {P : Nat → Bool} {w V : World} (h : ∀ b, b < w.heap.size → P b = true ∧ V.heap[b]? = w.heap[b]?) : Reads w (veil P V) := fun a v hv => by
 obtain ⟨h1, h2⟩ := h a.block (World.block_lt_of_cell? w _ hv)
 rw [World.cell?_of_block (veil_at h1), World.cell?_of_block h2]
 exact hv
theorem veil_readsA (P : Nat → Bool) (W : World) : Reads (veil P W) W := fun a v h => (veil_seen h).2
structure PlaceAt (L : Nat) (w : World) (h : Hd) (v : V) (l : Nat) (us : List AT) (j : Nat) (a : Option Addr) (c0 : Nat) (W : World) : Prop where
 below : Below w.heap.size w W
 box : W.heap[w.heap.size]? = some (.cells #[.int .u8 h.h.k, .int .u8 h.h.op, .int .i64 h.h.pl, .int .i64 h.h.n, .string h.h.name, .string h.h.arg, .string h.h.exn, .int .i64 h.rho, .slice v.ra h.rhos.length v.rc, .slice v.ea h.e.length v.ec, .int .u8 h.ty.h.k, .int .i64 h.ty.h.r, .slice v.tea h.ty.h.e.length v.tec, .slice v.tka h.ty.ks.length v.tkc, .int .u8 h.re.h.k, .int .i64 h.re.h.r, .slice v.sea h.re.h.e.length v.sec, .slice v.ska h.re.ks.length v.skc, .slice v.ka l v.kc] 31 (0, 0))
 res : W.heap[w.heap.size + 1]? = some (.cells #[.int .u8 0, .int .u8 0, .int .i64 0, .int .i64 0, .string ⟨#[]⟩, .string ⟨#[]⟩, .string ⟨#[]⟩, .int .i64 0, .slice none 0 0, .slice none 0 0, .int .u8 0, .int .i64 0, .slice none 0 0, .slice none 0 0, .int .u8 0, .int .i64 0, .slice none 0 0, .slice none 0 0, .slice none 0 0] 31 (0, 0))
 out : W.heap[w.heap.size + 2]? = some (.cells #[.int .u8 h.h.k, .int .u8 h.h.op, .int .i64 0, .int .i64 h.h.n, .string h.h.name, .string h.h.arg, .string h.h.exn, .int .i64 h.rho, .slice v.ra h.rhos.length v.rc, .slice v.ea h.e.length v.ec, .int .u8 h.ty.h.k, .int .i64 h.ty.h.r, .slice v.tea h.ty.h.e.length v.tec, .slice v.tka h.ty.ks.length v.tkc, .int .u8 h.re.h.k, .int .i64 h.re.h.r, .slice v.sea h.re.h.e.length v.sec, .slice v.ska h.re.ks.length v.skc, .slice a j c0] 31 (0, 0))
 row : RowA L (w.heap.size + 3) (.slice a j c0) us W
 len : us.length = j
 low : L ≤ w.heap.size
def PlaceEnd (L : Nat) (r : AT) (w : World) (e : Ending) (w' : World) : Prop :=
 ∃ q : V, e = .returned (.agg #[.int .u8 r.h.h.k, .int .u8 r.h.h.op, .int .i64 r.h.h.pl, .int .i64 r.h.h.n, .string r.h.h.name, .string r.h.h.arg, .string r.h.h.exn, .int .i64 r.h.rho, .slice q.ra r.h.rhos.length q.rc, .slice q.ea r.h.e.length q.ec, .int .u8 r.h.ty.h.k, .int .i64 r.h.ty.h.r, .slice q.tea r.h.ty.h.e.length q.tec, .slice q.tka r.h.ty.ks.length q.tkc, .int .u8 r.h.re.h.k, .int .i64 r.h.re.h.r, .slice q.sea r.h.re.h.e.length q.sec, .slice q.ska r.h.re.ks.length q.skc, .slice q.ka r.ks.length q.kc]) ∧ AtIs (veil (lowA L w.heap.size) w') r.h q r.ks.length r ∧ Below w.heap.size w w'
theorem place_step {L : Nat} {w : World} {h : Hd} {v : V} {l : Nat} {us : List AT} {j : Nat} {a : Option Addr} {c0 : Nat} {W w2 w3 : World} {xs : List Value} {hd : Hd} {q2 : V} {l2 M : Nat} {u : AT} {O : Obj} {a3 : Option Addr} {c3 : Nat}
  (hA : PlaceAt L w h v l us j a c0 W) (hb2 : Below W.heap.size W w2) (ho : (w2.alloc O).ownsRow (w.heap.size + 3) 31 19 (.slice a j c0) j xs) (hf : Aterm.Flat (veil (seenA L (w.heap.size + 3) (.slice a j c0)) (w2.alloc O)) xs us)
  (hT : AtIs (veil (lowA L M) w2) hd q2 l2 u) (hM : W.heap.size ≤ M) (ho3 : w3.ownsRow (w.heap.size + 3) 31 19 (.slice a3 (j + 1) c3) (j + 1) (xs ++ acells hd q2 l2))
  (hg : (w2.alloc O).grownBy w3 (Value.slice a j c0).ownBlock) (hat : (Value.slice a3 (j + 1) c3).ownBlock = (Value.slice a j c0).ownBlock ∨ (Value.slice a3 (j + 1) c3).ownBlock = some (w2.alloc O).heap.size) :
  (w3.cell? ⟨w.heap.size + 2, 18, none⟩ = some (.slice a j c0) ∧ w3.frozen? ⟨w.heap.size + 2, 18, none⟩ = false) ∧ PlaceAt L w h v l (us ++ [u]) (j + 1) a3 c3 (w3.setCell ⟨w.heap.size + 2, 18, none⟩ (.slice a3 (j + 1) c3)) ∧ Below w.heap.size w w3 ∧ (∀ b, b < w.heap.size + 3 → w3.heap[b]? = W.heap[b]?) ∧ (∀ b, W.heap.size ≤ b → b < (w2.alloc O).heap.size → w3.heap[b]? = (w2.alloc O).heap[b]?) := by
 have hout := lt_of_block hA.out
 have hW2 := hb2.size
 have hsz : (w2.alloc O).heap.size = w2.heap.size + 1 := by simp
 have hge : ∀ g, (Value.slice a j c0).ownBlock = some g → w.heap.size + 3 ≤ g ∧ g < W.heap.size := fun g hgg => by
  obtain ⟨ys, h1, _⟩ := hA.row
  rw [hA.len] at h1
  exact h1.lt g hgg
 have hstay : ∀ b, b < w.heap.size + 3 → w3.heap[b]? = W.heap[b]? := fun b hb => by
  rw [hg.block b (by omega) (fun e => by have := hge b e.symm; omega)]
  exact ((box_new (w := w2) O).block b (by omega)).trans (hb2.block b (by omega))
 have hout3 := (hstay (w.heap.size + 2) (by omega)).trans hA.out
 have hoth : ∀ b, b ≠ w.heap.size + 2 → (w3.setCell ⟨w.heap.size + 2, 18, none⟩ (.slice a3 (j + 1) c3)).heap[b]? = w3.heap[b]? := fun b hb => Below.heap_setCell _ _ _ _ hb
 have hlow := hA.low
 have hrow : RowA L (w.heap.size + 3) (.slice a3 (j + 1) c3) (us ++ [u]) w3 := by
  have hlen := hA.len
  refine rowA_step (v := .slice a j c0) (W := w2.alloc O) (M := M) (hd := hd) (q := q2) (l := l2) (by rw [hlen]; exact ho) hf (at_reads hT (veil_to fun b hb hp => ⟨hp, (box_new (w := w2) O).block b hb⟩)) (by omega) (by omega) (fun g hgg => by have := hge g hgg; omega) (by rw [hlen]; exact ho3) hg hat
 have hbel : Below w.heap.size w w3 := by
  have h1 : Below w.heap.size w (w2.alloc O) := below_then hA.below (hb2.alloc (by omega) O) hA.below.size
  exact h1.grown hg h1.size fun g hgg => by have := hge g hgg; omega
 refine ⟨⟨by simp [World.cell?, hout3], by simp [World.frozen?, hout3]⟩, ⟨hbel.setCell (p := ⟨w.heap.size + 2, 18, none⟩) (by show w.heap.size ≤ w.heap.size + 2; omega) _, ?_, ?_, ?_, hrow.off (fun b hb => hoth b (by omega)), by rw [List.length_append, hA.len]; rfl, hlow⟩, hbel, hstay, fun b h1 h2 => hg.block b h2 (fun e => by have := hge b e.symm; omega)⟩
 ·exact (hoth _ (by omega)).trans ((hstay _ (by omega)).trans hA.box)
 ·exact (hoth _ (by omega)).trans ((hstay _ (by omega)).trans hA.res)
 ·simp [World.setCell, Array.getElem?_modify, hout3]
theorem zero_ok {W : World} {h : Hd} {v : V} (k : HdIs W h v) (a : Option Addr) (c : Nat) : HdIs W (zeroH h) { v with ka := a, kc := c } :=
 ⟨⟨k.hd.k, k.hd.op, ⟨by show (-9223372036854775808 : Int) ≤ 0; omega, by show (0 : Int) ≤ 9223372036854775807; omega⟩, k.hd.n, k.hd.name, k.hd.arg, k.hd.exn⟩, k.rho, k.rhos, k.rcap, k.eff, k.eok, k.ty, k.re⟩
theorem place_end {w0 w : World} {h : Hd} {v : V} {l : Nat} {us : List AT} {j : Nat} {a : Option Addr} {c0 : Nat} {W W' : World} (hk : HdIs w0 h v) (hb0 : Below w0.heap.size w0 w) (hA : PlaceAt w0.heap.size w h v l us j a c0 W) (hoth : ∀ b, b ≠ w.heap.size + 1 → W'.heap[b]? = W.heap[b]?) (hb : Below w.heap.size w W') :
  PlaceEnd w0.heap.size (.node (zeroH h) us) w (.returned (.agg #[.int .u8 h.h.k, .int .u8 h.h.op, .int .i64 0, .int .i64 h.h.n, .string h.h.name, .string h.h.arg, .string h.h.exn, .int .i64 h.rho, .slice v.ra h.rhos.length v.rc, .slice v.ea h.e.length v.ec, .int .u8 h.ty.h.k, .int .i64 h.ty.h.r, .slice v.tea h.ty.h.e.length v.tec, .slice v.tka h.ty.ks.length v.tkc, .int .u8 h.re.h.k, .int .i64 h.re.h.r, .slice v.sea h.re.h.e.length v.sec, .slice v.ska h.re.ks.length v.skc, .slice a j c0])) W' := by
 have hlen := hA.len
 have hsl : j ≤ c0 ∧ c0 ≤ maxLen := by
  obtain ⟨a', c', he, hc1, hc2⟩ := hA.row.slice
  injection he with e1 e2 e3
  subst e1 e3
  exact ⟨by rw [← hlen]; exact hc2, hc1⟩
 have hkk : Aterm.Kids (veil (lowA w0.heap.size (w.heap.size + 3)) W) a us := by
  have := hA.row
  rw [← hlen] at this
  exact this.kids
 have hlow := hA.low
 have hW := (Below.refl w0.heap.size w0).trans (below_then hb0 (hA.below) hlow)
 refine ⟨{ v with ka := a, kc := c0 }, ?_, ⟨rfl, rfl, hd_reads (zero_ok hk a c0) (veil_fromA fun b hb => ⟨lowA_iff.2 (.inl hb), (hoth b (by omega)).trans (hW.block b hb)⟩), ?_, kids_reads hkk (veil_to fun b hbl hp => ?_)⟩, hb⟩
 ·show _ = Ending.returned (.agg #[.int .u8 h.h.k, .int .u8 h.h.op, .int .i64 0, .int .i64 h.h.n, .string h.h.name, .string h.h.arg, .string h.h.exn, .int .i64 h.rho, .slice v.ra h.rhos.length v.rc, .slice v.ea h.e.length v.ec, .int .u8 h.ty.h.k, .int .i64 h.ty.h.r, .slice v.tea h.ty.h.e.length v.tec, .slice v.tka h.ty.ks.length v.tkc, .int .u8 h.re.h.k, .int .i64 h.re.h.r, .slice v.sea h.re.h.e.length v.sec, .slice v.ska h.re.ks.length v.skc, .slice a us.length c0])
  rw [hlen]
 ·show us.length ≤ c0 ∧ c0 ≤ maxLen
  rw [hlen]; exact hsl
 ·rcases lowA_iff.1 hp with h | h
  ·exact ⟨lowA_iff.2 (.inl h), hoth b (by omega)⟩
  ·exact ⟨lowA_iff.2 (.inr (by omega)), hoth b (by omega)⟩
theorem news19 {w : World} {N : Nat} {h : Hd} {q : V} {l : Nat} {ty : TypeId} (hN : N = w.heap.size) (j : Nat) : ∀ u, (acells h q l)[j]? = some u → (w.alloc (.cells #[.int .u8 h.h.k, .int .u8 h.h.op, .int .i64 h.h.pl, .int .i64 h.h.n, .string h.h.name, .string h.h.arg, .string h.h.exn, .int .i64 h.rho, .slice q.ra h.rhos.length q.rc, .slice q.ea h.e.length q.ec, .int .u8 h.ty.h.k, .int .i64 h.ty.h.r, .slice q.tea h.ty.h.e.length q.tec, .slice q.tka h.ty.ks.length q.tkc, .int .u8 h.re.h.k, .int .i64 h.re.h.r, .slice q.sea h.re.h.e.length q.sec, .slice q.ska h.re.ks.length q.skc, .slice q.ka l q.kc] ty)).cell? ((⟨N, 0, none⟩ : Addr).add j) = some u := by
 subst hN
 exact World.news_of_block (heap_alloc_new _ _) j
theorem cells_one19 (h : Hd) (q : V) (l : Nat) : ∀ u ∈ acells h q l, u.oneCell' = true := by
 intro u hu
 simp [acells] at hu
 rcases hu with rfl | rfl | rfl | rfl | rfl | rfl | rfl | rfl | rfl | rfl | rfl | rfl | rfl | rfl | rfl | rfl | rfl | rfl | rfl <;> rfl
end Disp
end Go.Proofs.YtkfkpjngiffamaaGreatDoor
