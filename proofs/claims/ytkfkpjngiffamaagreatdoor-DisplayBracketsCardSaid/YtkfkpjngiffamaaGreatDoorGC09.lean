import Derived.Test.YtkfkpjngiffamaaGreatDoorGC07
import Derived.Test.YtkfkpjngiffamaaGreatDoorGC08
import Derived.IntWalk
import Derived.StillTailTactics
import Derived.OwnWalk
import Derived.Laws.AppendOwn
import Derived.Test.YtkfkpjngiffamaaGreatDoorGC06
import Derived.Test.YtkfkpjngiffamaaGreatDoorGC00
import Derived.Test.YtkfkpjngiffamaaGreatDoorGC01
namespace Go.Proofs.YtkfkpjngiffamaaGreatDoor
open Go.RowKit
set_option linter.unusedVariables false
set_option linter.unusedSimpArgs false
namespace Aterm
open Effect (At AtOk AtsAt Rd RdI ret_i64 ret_bool)
open Rt (box_new box_at below_then)

theorem box19 {V W : World} {N : Nat} (hN : N = V.heap.size) {a0 a1 a2 a3 a4 a5 a6 a7 a8 a9 a10 a11 a12 a13 a14 a15 a16 a17 a18 : Value} {ty : TypeId} (hb : Below (V.alloc (.cells #[a0, a1, a2, a3, a4, a5, a6, a7, a8, a9, a10, a11, a12, a13, a14, a15, a16, a17, a18] ty)).heap.size (V.alloc (.cells #[a0, a1, a2, a3, a4, a5, a6, a7, a8, a9, a10, a11, a12, a13, a14, a15, a16, a17, a18] ty)) W) :
  W.cell? ⟨N, 0, none⟩ = some a0 ∧ W.cell? ⟨N, 1, none⟩ = some a1 ∧ W.cell? ⟨N, 2, none⟩ = some a2 ∧ W.cell? ⟨N, 3, none⟩ = some a3 ∧ W.cell? ⟨N, 4, none⟩ = some a4 ∧ W.cell? ⟨N, 5, none⟩ = some a5 ∧ W.cell? ⟨N, 6, none⟩ = some a6 ∧ W.cell? ⟨N, 7, none⟩ = some a7 ∧ W.cell? ⟨N, 8, none⟩ = some a8 ∧ W.cell? ⟨N, 9, none⟩ = some a9 ∧ W.cell? ⟨N, 10, none⟩ = some a10 ∧ W.cell? ⟨N, 11, none⟩ = some a11 ∧ W.cell? ⟨N, 12, none⟩ = some a12 ∧ W.cell? ⟨N, 13, none⟩ = some a13 ∧ W.cell? ⟨N, 14, none⟩ = some a14 ∧ W.cell? ⟨N, 15, none⟩ = some a15 ∧ W.cell? ⟨N, 16, none⟩ = some a16 ∧ W.cell? ⟨N, 17, none⟩ = some a17 ∧ W.cell? ⟨N, 18, none⟩ = some a18 := by
 subst hN
 exact ⟨box_at hb 0 rfl, box_at hb 1 rfl, box_at hb 2 rfl, box_at hb 3 rfl, box_at hb 4 rfl, box_at hb 5 rfl, box_at hb 6 rfl, box_at hb 7 rfl, box_at hb 8 rfl, box_at hb 9 rfl, box_at hb 10 rfl, box_at hb 11 rfl, box_at hb 12 rfl, box_at hb 13 rfl, box_at hb 14 rfl, box_at hb 15 rfl, box_at hb 16 rfl, box_at hb 17 rfl, box_at hb 18 rfl⟩
def Box (w : World) (N : Nat) (h : Hd) (v : V) (l : Nat) : Prop := w.cell? ⟨N, 0, none⟩ = some (.int .u8 h.h.k) ∧ w.cell? ⟨N, 1, none⟩ = some (.int .u8 h.h.op) ∧ w.cell? ⟨N, 2, none⟩ = some (.int .i64 h.h.pl) ∧ w.cell? ⟨N, 3, none⟩ = some (.int .i64 h.h.n) ∧ w.cell? ⟨N, 4, none⟩ = some (.string h.h.name) ∧ w.cell? ⟨N, 5, none⟩ = some (.string h.h.arg) ∧ w.cell? ⟨N, 6, none⟩ = some (.string h.h.exn) ∧ w.cell? ⟨N, 7, none⟩ = some (.int .i64 h.rho) ∧ w.cell? ⟨N, 8, none⟩ = some (.slice v.ra h.rhos.length v.rc) ∧ w.cell? ⟨N, 9, none⟩ = some (.slice v.ea h.e.length v.ec) ∧ w.cell? ⟨N, 10, none⟩ = some (.int .u8 h.ty.h.k) ∧ w.cell? ⟨N, 11, none⟩ = some (.int .i64 h.ty.h.r) ∧ w.cell? ⟨N, 12, none⟩ = some (.slice v.tea h.ty.h.e.length v.tec) ∧ w.cell? ⟨N, 13, none⟩ = some (.slice v.tka h.ty.ks.length v.tkc) ∧ w.cell? ⟨N, 14, none⟩ = some (.int .u8 h.re.h.k) ∧ w.cell? ⟨N, 15, none⟩ = some (.int .i64 h.re.h.r) ∧ w.cell? ⟨N, 16, none⟩ = some (.slice v.sea h.re.h.e.length v.sec) ∧ w.cell? ⟨N, 17, none⟩ = some (.slice v.ska h.re.ks.length v.skc) ∧ w.cell? ⟨N, 18, none⟩ = some (.slice v.ka l v.kc)
theorem box_of {w : World} {h : Hd} {v : V} {l : Nat} {ty : TypeId} : Box (w.alloc (.cells #[.int .u8 h.h.k, .int .u8 h.h.op, .int .i64 h.h.pl, .int .i64 h.h.n, .string h.h.name, .string h.h.arg, .string h.h.exn, .int .i64 h.rho, .slice v.ra h.rhos.length v.rc, .slice v.ea h.e.length v.ec, .int .u8 h.ty.h.k, .int .i64 h.ty.h.r, .slice v.tea h.ty.h.e.length v.tec, .slice v.tka h.ty.ks.length v.tkc, .int .u8 h.re.h.k, .int .i64 h.re.h.r, .slice v.sea h.re.h.e.length v.sec, .slice v.ska h.re.ks.length v.skc, .slice v.ka l v.kc] ty)) w.heap.size h v l := box19 (V := w) rfl (Below.refl _ _)
theorem Box.below {w W : World} {N : Nat} {h : Hd} {v : V} {l : Nat} (k : Box w N h v l) (hb : Below w.heap.size w W) : Box W N h v l := by
 obtain ⟨b0, b1, b2, b3, b4, b5, b6, b7, b8, b9, b10, b11, b12, b13, b14, b15, b16, b17, b18⟩ := k
 have hlt : N < w.heap.size := World.block_lt_of_cell? w _ b0
 exact ⟨(hb.cell (p := ⟨N, 0, none⟩) hlt).trans b0, (hb.cell (p := ⟨N, 1, none⟩) hlt).trans b1, (hb.cell (p := ⟨N, 2, none⟩) hlt).trans b2, (hb.cell (p := ⟨N, 3, none⟩) hlt).trans b3, (hb.cell (p := ⟨N, 4, none⟩) hlt).trans b4, (hb.cell (p := ⟨N, 5, none⟩) hlt).trans b5, (hb.cell (p := ⟨N, 6, none⟩) hlt).trans b6, (hb.cell (p := ⟨N, 7, none⟩) hlt).trans b7, (hb.cell (p := ⟨N, 8, none⟩) hlt).trans b8, (hb.cell (p := ⟨N, 9, none⟩) hlt).trans b9, (hb.cell (p := ⟨N, 10, none⟩) hlt).trans b10, (hb.cell (p := ⟨N, 11, none⟩) hlt).trans b11, (hb.cell (p := ⟨N, 12, none⟩) hlt).trans b12, (hb.cell (p := ⟨N, 13, none⟩) hlt).trans b13, (hb.cell (p := ⟨N, 14, none⟩) hlt).trans b14, (hb.cell (p := ⟨N, 15, none⟩) hlt).trans b15, (hb.cell (p := ⟨N, 16, none⟩) hlt).trans b16, (hb.cell (p := ⟨N, 17, none⟩) hlt).trans b17, (hb.cell (p := ⟨N, 18, none⟩) hlt).trans b18⟩
theorem Box.range {w : World} {N : Nat} {h : Hd} {v : V} {l : Nat} (k : Box w N h v l) : w.rangeAt N 0 (acells h v l) := by
 obtain ⟨b0, b1, b2, b3, b4, b5, b6, b7, b8, b9, b10, b11, b12, b13, b14, b15, b16, b17, b18⟩ := k
 intro j x hx
 match j, hx with
 | 0, hx => cases hx; exact b0
 | 1, hx => cases hx; exact b1
 | 2, hx => cases hx; exact b2
 | 3, hx => cases hx; exact b3
 | 4, hx => cases hx; exact b4
 | 5, hx => cases hx; exact b5
 | 6, hx => cases hx; exact b6
 | 7, hx => cases hx; exact b7
 | 8, hx => cases hx; exact b8
 | 9, hx => cases hx; exact b9
 | 10, hx => cases hx; exact b10
 | 11, hx => cases hx; exact b11
 | 12, hx => cases hx; exact b12
 | 13, hx => cases hx; exact b13
 | 14, hx => cases hx; exact b14
 | 15, hx => cases hx; exact b15
 | 16, hx => cases hx; exact b16
 | 17, hx => cases hx; exact b17
 | 18, hx => cases hx; exact b18
 | _ + 19, hx => simp [acells] at hx
theorem capA {w : World} {h : Hd} {v : V} {l : Nat} {t : AT} (hT : AtIs w h v l t) : l ≤ 9223372036854775807 ∧ h.rhos.length ≤ 9223372036854775807 ∧ h.e.length ≤ 9223372036854775807 ∧ h.h.name.size ≤ 9223372036854775807 ∧ h.h.arg.size ≤ 9223372036854775807 ∧ h.h.exn.size ≤ 9223372036854775807 := by
 have h1 := hT.cap
 have h2 := hT.ok.rcap
 have h3 := hT.ok.eff.cap
 have h4 := hT.ok.hd.name
 have h5 := hT.ok.hd.arg
 have h6 := hT.ok.hd.exn
 unfold maxLen at h1 h2 h3 h4 h5 h6
 omega

set_option maxRecDepth 10000 in
set_option maxHeartbeats 3200000 in
theorem left_long (t : AT) (h : Hd) (v : V) (l : Nat) (n : Int) (w : World) (hT : AtIs w h v l t) (hn0 : 0 ≤ n) (hn1 : n ≤ 400) (hl : 100 < h.h.name.size ∨ 100 < h.h.arg.size ∨ 100 < h.h.exn.size ∨ 50 < h.rhos.length) :
  Calls Tryz.prog 18 #[.agg #[.int .u8 h.h.k, .int .u8 h.h.op, .int .i64 h.h.pl, .int .i64 h.h.n, .string h.h.name, .string h.h.arg, .string h.h.exn, .int .i64 h.rho, .slice v.ra h.rhos.length v.rc, .slice v.ea h.e.length v.ec, .int .u8 h.ty.h.k, .int .i64 h.ty.h.r, .slice v.tea h.ty.h.e.length v.tec, .slice v.tka h.ty.ks.length v.tkc, .int .u8 h.re.h.k, .int .i64 h.re.h.r, .slice v.sea h.re.h.e.length v.sec, .slice v.ska h.re.ks.length v.skc, .slice v.ka l v.kc], .int .i64 n] w fun e w' => e = .returned (.int .i64 (leftT t n)) ∧ Below w.heap.size w w' := by
  have hle := leftT_eq t n
  rw [hT.head, show longB h = true from by unfold longB; simp [hl], if_pos rfl] at hle
  obtain ⟨hlc, hrc, hec, s4, s5, s6⟩ := capA hT
  obtain ⟨⟨k, op, pl, nn, nm, ar, ex⟩, rho, rhos, e, ty, re⟩ := h
  simp only at hl hrc hec s4 s5 s6
  have HLE := Lib.hid hle; clear hle
  clear hT
  by_cases h4 : 100 < nm.size
  ·clear hl
   go_enter Tryz.func18, Tryz.ntmps18
   go_upto_region 1 with (fail)
   obtain ⟨W0, hW0⟩ : ∃ W0, W0 = (w.alloc (.cells #[.int .u8 k, .int .u8 op, .int .i64 pl, .int .i64 nn, .string nm, .string ar, .string ex, .int .i64 rho, .slice v.ra rhos.length v.rc, .slice v.ea e.length v.ec, .int .u8 ty.h.k, .int .i64 ty.h.r, .slice v.tea ty.h.e.length v.tec, .slice v.tka ty.ks.length v.tkc, .int .u8 re.h.k, .int .i64 re.h.r, .slice v.sea re.h.e.length v.sec, .slice v.ska re.ks.length v.skc, .slice v.ka l v.kc] 31)) := ⟨_, rfl⟩
   have hbx : Box W0 w.heap.size ⟨⟨k, op, pl, nn, nm, ar, ex⟩, rho, rhos, e, ty, re⟩ v l := by rw [hW0]; exact box_of (w := w) (h := ⟨⟨k, op, pl, nn, nm, ar, ex⟩, rho, rhos, e, ty, re⟩) (v := v) (l := l)
   have hb0 : Below w.heap.size w W0 := by rw [hW0]; exact box_new _
   rw [← hW0]
   clear hW0
   generalize hN0 : w.heap.size = N0 at hbx ⊢
   have HBX := Lib.hid hbx; have HB0 := Lib.hid hb0
   obtain ⟨b0, b1, b2, b3, b4, b5, b6, b7, b8, b9, b10, b11, b12, b13, b14, b15, b16, b17, b18⟩ := hbx
   simp only at b0 b1 b2 b3 b4 b5 b6 b7 b8 b9 b10 b11 b12 b13 b14 b15 b16 b17 b18
   clear hb0 hN0
   go_wp2_with (fail)
   go_ret
   exact ⟨ret_i64 HLE.out.symm, HB0.out⟩
  by_cases h5 : 100 < ar.size
  ·clear hl
   go_enter Tryz.func18, Tryz.ntmps18
   go_upto_region 1 with (fail)
   obtain ⟨W0, hW0⟩ : ∃ W0, W0 = (w.alloc (.cells #[.int .u8 k, .int .u8 op, .int .i64 pl, .int .i64 nn, .string nm, .string ar, .string ex, .int .i64 rho, .slice v.ra rhos.length v.rc, .slice v.ea e.length v.ec, .int .u8 ty.h.k, .int .i64 ty.h.r, .slice v.tea ty.h.e.length v.tec, .slice v.tka ty.ks.length v.tkc, .int .u8 re.h.k, .int .i64 re.h.r, .slice v.sea re.h.e.length v.sec, .slice v.ska re.ks.length v.skc, .slice v.ka l v.kc] 31)) := ⟨_, rfl⟩
   have hbx : Box W0 w.heap.size ⟨⟨k, op, pl, nn, nm, ar, ex⟩, rho, rhos, e, ty, re⟩ v l := by rw [hW0]; exact box_of (w := w) (h := ⟨⟨k, op, pl, nn, nm, ar, ex⟩, rho, rhos, e, ty, re⟩) (v := v) (l := l)
   have hb0 : Below w.heap.size w W0 := by rw [hW0]; exact box_new _
   rw [← hW0]
   clear hW0
   generalize hN0 : w.heap.size = N0 at hbx ⊢
   have HBX := Lib.hid hbx; have HB0 := Lib.hid hb0
   obtain ⟨b0, b1, b2, b3, b4, b5, b6, b7, b8, b9, b10, b11, b12, b13, b14, b15, b16, b17, b18⟩ := hbx
   simp only at b0 b1 b2 b3 b4 b5 b6 b7 b8 b9 b10 b11 b12 b13 b14 b15 b16 b17 b18
   clear hb0 hN0
   go_wp2_with (fail)
   go_ret
   exact ⟨ret_i64 HLE.out.symm, HB0.out⟩
  by_cases h6 : 100 < ex.size
  ·clear hl
   go_enter Tryz.func18, Tryz.ntmps18
   go_upto_region 1 with (fail)
   obtain ⟨W0, hW0⟩ : ∃ W0, W0 = (w.alloc (.cells #[.int .u8 k, .int .u8 op, .int .i64 pl, .int .i64 nn, .string nm, .string ar, .string ex, .int .i64 rho, .slice v.ra rhos.length v.rc, .slice v.ea e.length v.ec, .int .u8 ty.h.k, .int .i64 ty.h.r, .slice v.tea ty.h.e.length v.tec, .slice v.tka ty.ks.length v.tkc, .int .u8 re.h.k, .int .i64 re.h.r, .slice v.sea re.h.e.length v.sec, .slice v.ska re.ks.length v.skc, .slice v.ka l v.kc] 31)) := ⟨_, rfl⟩
   have hbx : Box W0 w.heap.size ⟨⟨k, op, pl, nn, nm, ar, ex⟩, rho, rhos, e, ty, re⟩ v l := by rw [hW0]; exact box_of (w := w) (h := ⟨⟨k, op, pl, nn, nm, ar, ex⟩, rho, rhos, e, ty, re⟩) (v := v) (l := l)
   have hb0 : Below w.heap.size w W0 := by rw [hW0]; exact box_new _
   rw [← hW0]
   clear hW0
   generalize hN0 : w.heap.size = N0 at hbx ⊢
   have HBX := Lib.hid hbx; have HB0 := Lib.hid hb0
   obtain ⟨b0, b1, b2, b3, b4, b5, b6, b7, b8, b9, b10, b11, b12, b13, b14, b15, b16, b17, b18⟩ := hbx
   simp only at b0 b1 b2 b3 b4 b5 b6 b7 b8 b9 b10 b11 b12 b13 b14 b15 b16 b17 b18
   clear hb0 hN0
   go_wp2_with (fail)
   go_ret
   exact ⟨ret_i64 HLE.out.symm, HB0.out⟩
  ·have h7 : 50 < rhos.length := by omega
   clear hl
   go_enter Tryz.func18, Tryz.ntmps18
   go_upto_region 1 with (fail)
   obtain ⟨W0, hW0⟩ : ∃ W0, W0 = (w.alloc (.cells #[.int .u8 k, .int .u8 op, .int .i64 pl, .int .i64 nn, .string nm, .string ar, .string ex, .int .i64 rho, .slice v.ra rhos.length v.rc, .slice v.ea e.length v.ec, .int .u8 ty.h.k, .int .i64 ty.h.r, .slice v.tea ty.h.e.length v.tec, .slice v.tka ty.ks.length v.tkc, .int .u8 re.h.k, .int .i64 re.h.r, .slice v.sea re.h.e.length v.sec, .slice v.ska re.ks.length v.skc, .slice v.ka l v.kc] 31)) := ⟨_, rfl⟩
   have hbx : Box W0 w.heap.size ⟨⟨k, op, pl, nn, nm, ar, ex⟩, rho, rhos, e, ty, re⟩ v l := by rw [hW0]; exact box_of (w := w) (h := ⟨⟨k, op, pl, nn, nm, ar, ex⟩, rho, rhos, e, ty, re⟩) (v := v) (l := l)
   have hb0 : Below w.heap.size w W0 := by rw [hW0]; exact box_new _
   rw [← hW0]
   clear hW0
   generalize hN0 : w.heap.size = N0 at hbx ⊢
   have HBX := Lib.hid hbx; have HB0 := Lib.hid hb0
   obtain ⟨b0, b1, b2, b3, b4, b5, b6, b7, b8, b9, b10, b11, b12, b13, b14, b15, b16, b17, b18⟩ := hbx
   simp only at b0 b1 b2 b3 b4 b5 b6 b7 b8 b9 b10 b11 b12 b13 b14 b15 b16 b17 b18
   clear hb0 hN0
   go_wp2_with (fail)
   go_ret
   exact ⟨ret_i64 HLE.out.symm, HB0.out⟩
set_option maxRecDepth 10000 in
set_option maxHeartbeats 3200000 in
theorem left_walk : ∀ (m : Nat) (t : AT) (h : Hd) (v : V) (l : Nat) (n : Int) (w : World), wt t ≤ m → AtIs w h v l t → 0 ≤ n → n ≤ 400 →
  Calls Tryz.prog 18 #[.agg #[.int .u8 h.h.k, .int .u8 h.h.op, .int .i64 h.h.pl, .int .i64 h.h.n, .string h.h.name, .string h.h.arg, .string h.h.exn, .int .i64 h.rho, .slice v.ra h.rhos.length v.rc, .slice v.ea h.e.length v.ec, .int .u8 h.ty.h.k, .int .i64 h.ty.h.r, .slice v.tea h.ty.h.e.length v.tec, .slice v.tka h.ty.ks.length v.tkc, .int .u8 h.re.h.k, .int .i64 h.re.h.r, .slice v.sea h.re.h.e.length v.sec, .slice v.ska h.re.ks.length v.skc, .slice v.ka l v.kc], .int .i64 n] w fun e w' => e = .returned (.int .i64 (leftT t n)) ∧ Below w.heap.size w w' := by
 intro m
 induction m with
 | zero => intro t h v l n w hm; have := wt_pos t; omega
 | succ m ih =>
  intro t h v l n w hm hT hn0 hn1
  have hle := leftT_eq t n
  rw [hT.head] at hle
  obtain ⟨hlc, hrc, hec, s4, s5, s6⟩ := capA hT
  have hge := fun (W : World) (hb : Below w.heap.size w W) => Effect.great_walk (c := v.ec) (hT.ok.eff.below hb).rd (Nat.le_trans hT.ok.eff.cap.1 hT.ok.eff.cap.2)
  have hgt := fun (W : World) (hb : Below w.heap.size w W) => Rt.great_walk h.ty h.ty.h v.tea h.ty.h.e.length v.tec v.tka h.ty.ks.length v.tkc W (hT.ok.ty.below hb)
  have hgr := fun (W : World) (hb : Below w.heap.size w W) => Rt.great_walk h.re h.re.h v.sea h.re.h.e.length v.sec v.ska h.re.ks.length v.skc W (hT.ok.re.below hb)
  by_cases hl : 100 < h.h.name.size ∨ 100 < h.h.arg.size ∨ 100 < h.h.exn.size ∨ 50 < h.rhos.length
  ·exact left_long t h v l n w hT hn0 hn1 hl
  have hlong : longB h = (decide (100 < h.h.name.size ∨ 100 < h.h.arg.size ∨ 100 < h.h.exn.size ∨ 50 < h.rhos.length) || Effect.greatB h.e || Rt.greatT h.ty || Rt.greatT h.re) := rfl
  obtain ⟨⟨k, op, pl, nn, nm, ar, ex⟩, rho, rhos, e, ty, re⟩ := h
  simp only at hle hge hgt hgr hlong hrc hec s4 s5 s6 hl
  have hbox : ∀ O : Obj, Below w.heap.size w (w.alloc O) := fun O => box_new O
  have HBOX := Lib.hid hbox; have IH := Lib.hid ih; have HT := Lib.hid hT; have HM := Lib.hid hm
  have HGE := Lib.hid hge; have HGT := Lib.hid hgt; have HGR := Lib.hid hgr
  clear ih hT hm hbox hge hgt hgr
  have h4 : ¬ 100 < nm.size := by omega
  have h5 : ¬ 100 < ar.size := by omega
  have h6 : ¬ 100 < ex.size := by omega
  have h7 : ¬ 50 < rhos.length := by omega
  have hl0 : decide (100 < nm.size ∨ 100 < ar.size ∨ 100 < ex.size ∨ 50 < rhos.length) = false := decide_eq_false (by omega)
  rw [hl0, Bool.false_or] at hlong
  clear hl0 hl
  go_enter Tryz.func18, Tryz.ntmps18
  go_upto_region 1 with (fail)
  obtain ⟨W0, hW0⟩ : ∃ W0, W0 = (w.alloc (.cells #[.int .u8 k, .int .u8 op, .int .i64 pl, .int .i64 nn, .string nm, .string ar, .string ex, .int .i64 rho, .slice v.ra rhos.length v.rc, .slice v.ea e.length v.ec, .int .u8 ty.h.k, .int .i64 ty.h.r, .slice v.tea ty.h.e.length v.tec, .slice v.tka ty.ks.length v.tkc, .int .u8 re.h.k, .int .i64 re.h.r, .slice v.sea re.h.e.length v.sec, .slice v.ska re.ks.length v.skc, .slice v.ka l v.kc] 31)) := ⟨_, rfl⟩
  have hbx : Box W0 w.heap.size ⟨⟨k, op, pl, nn, nm, ar, ex⟩, rho, rhos, e, ty, re⟩ v l := by rw [hW0]; exact box_of (w := w) (h := ⟨⟨k, op, pl, nn, nm, ar, ex⟩, rho, rhos, e, ty, re⟩) (v := v) (l := l)
  have hb0 : Below w.heap.size w W0 := by rw [hW0]; exact box_new _
  rw [← hW0]
  clear hW0
  generalize hN0 : w.heap.size = N0 at hbx ⊢
  have HBX := Lib.hid hbx; have HB0 := Lib.hid hb0
  obtain ⟨b0, b1, b2, b3, b4, b5, b6, b7, b8, b9, b10, b11, b12, b13, b14, b15, b16, b17, b18⟩ := hbx
  simp only at b0 b1 b2 b3 b4 b5 b6 b7 b8 b9 b10 b11 b12 b13 b14 b15 b16 b17 b18
  clear hb0 hN0
  go_wp2_with (fail)
  refine (HGE.out _ HB0.out).mono ?_
  rintro e1 w1 ⟨rfl, hw1⟩
  have hw1' := hw1.symm
  clear hw1
  subst hw1'
  by_cases h8 : Effect.greatB e = true
  ·rw [hlong, h8, Bool.true_or, Bool.true_or, if_pos rfl] at hle
   have HLE := Lib.hid hle; clear hle hlong
   rw [h8]
   clear h8
   go_wp2_with (fail)
   go_ret
   exact ⟨ret_i64 HLE.out.symm, HB0.out⟩
  rw [Bool.not_eq_true] at h8
  rw [h8, Bool.false_or] at hlong
  rw [h8]
  clear h8
  go_wp2_with (fail)
  refine (HGT.out _ HB0.out).mono ?_
  rintro e1 w1 ⟨rfl, hb1⟩
  clear b0 b1 b2 b3 b4 b5 b6 b7 b8 b9 b10 b11 b12 b13 b14 b15 b16 b17 b18
  obtain ⟨b0, b1, b2, b3, b4, b5, b6, b7, b8, b9, b10, b11, b12, b13, b14, b15, b16, b17, b18⟩ := HBX.out.below hb1
  simp only at b0 b1 b2 b3 b4 b5 b6 b7 b8 b9 b10 b11 b12 b13 b14 b15 b16 b17 b18
  have HB1 := Lib.hid hb1; clear hb1
  by_cases h9 : Rt.greatT ty = true
  ·rw [hlong, h9, Bool.true_or, if_pos rfl] at hle
   have HLE := Lib.hid hle; clear hle hlong
   rw [h9]
   clear h9
   go_wp2_with (fail)
   go_ret
   exact ⟨ret_i64 HLE.out.symm, below_then HB0.out HB1.out HB0.out.size⟩
  rw [Bool.not_eq_true] at h9
  rw [h9, Bool.false_or] at hlong
  rw [h9]
  clear h9
  go_wp2_with (fail)
  refine (HGR.out _ (below_then HB0.out HB1.out HB0.out.size)).mono ?_
  rintro e2 w2 ⟨rfl, hb2⟩
  have HW0 := Lib.hid (HB1.out.trans (hb2.mono HB1.out.size)); clear hb2
  clear b0 b1 b2 b3 b4 b5 b6 b7 b8 b9 b10 b11 b12 b13 b14 b15 b16 b17 b18
  by_cases h9 : Rt.greatT re = true
  ·rw [hlong, h9, if_pos rfl] at hle
   have HLE := Lib.hid hle; clear hle hlong
   rw [h9]
   clear h9
   go_wp2_with (fail)
   go_ret
   exact ⟨ret_i64 HLE.out.symm, below_then HB0.out HW0.out HB0.out.size⟩
  rw [Bool.not_eq_true] at h9
  rw [hlong, h9, if_neg (by simp)] at hle
  have HLE := Lib.hid hle; clear hle hlong
  rw [h9]
  clear h9
  go_wp2_with (fail)
  go_loopw [1, 5] (fun N i wr => ∃ (j : Nat) (M : Int), j ≤ l ∧ i = .int .i64 j ∧ N = .int .i64 M ∧ -1 ≤ M ∧ M ≤ 400 ∧ Hid (leftK t.ks (n - 1) = leftK (t.ks.drop j) M) ∧
   Hid (Below W0.heap.size W0 wr)) (fun _ i _ => l - (intOf i).toNat)
  case atStart => exact ⟨0, n - 1, Nat.zero_le _, rfl, rfl, by omega, by omega, Lib.hid (by rw [List.drop_zero]), HW0⟩
  case round =>
   obtain ⟨j, M, hj, rfl, rfl, hM0, hM1, HLK, HW⟩ := hrel
   obtain ⟨b0, b1, b2, b3, b4, b5, b6, b7, b8, b9, b10, b11, b12, b13, b14, b15, b16, b17, b18⟩ := HBX.out.below HW.out
   simp only at b0 b1 b2 b3 b4 b5 b6 b7 b8 b9 b10 b11 b12 b13 b14 b15 b16 b17 b18
   have HWW := Lib.hid (below_then HB0.out HW.out HB0.out.size)
   by_cases hlt : j < l
   ·by_cases hneg : M < 0
    ·have hr := HLK.out
     rw [leftK_neg _ _ hneg] at hr
     have HR := Lib.hid hr; clear hr
     go_wp2_with (fail)
     go_ret
     exact ⟨ret_i64 (by rw [HLE.out, HR.out]), HWW.out⟩
    ·have hjk : j < t.ks.length := by rw [HT.out.len]; exact hlt
     have hst := HLK.out
     rw [leftK_step _ _ _ hjk hneg] at hst
     obtain ⟨b, o, v', hp, hkid, hrg⟩ := (HT.out.kids.stay HWW.out).load j hjk
     have HRG := Lib.hid hrg
     clear hrg
     rw [hp] at b18
     have hwk := wts_get hjk
     have hwt := wt_ks t
     have hlr1 := (left_range (wt (tget t.ks j))).1 (tget t.ks j) M (Nat.le_refl _) (by omega)
     have HST := Lib.hid hst; have HK := Lib.hid hkid
     have HWK := Lib.hid hwk; have HWT := Lib.hid hwt; have HLR := Lib.hid hlr1
     clear hst hkid hwk hwt hlr1 hjk hp
     go_wp2_with (refine at_load rfl (.tmp 62) rfl b (o + j * 19) rfl HRG.out ?_)
     refine (IH.out (tget t.ks j) _ v' _ M _ (by have := HM.out; have := HWK.out; have := HWT.out; omega) HK.out (by omega) hM1).mono ?_
     rintro e w2 ⟨rfl, hb2⟩
     have HW2 := Lib.hid (HW.out.trans (hb2.mono HW.out.size))
     clear hb2 b0 b1 b2 b3 b4 b5 b6 b7 b8 b9 b10 b11 b12 b13 b14 b15 b16 b17 b18
     have hx0 : -1 ≤ leftT (tget t.ks j) M := HLR.out.1
     have hx1 : leftT (tget t.ks j) M ≤ 400 := by have := HLR.out.2; omega
     generalize hX : leftT (tget t.ks j) M = X at *
     have HX := Lib.hid hX; clear hX
     go_wp2
     go_roundw
     case rel => exact ⟨j + 1, X, by omega, by go_num, rfl, hx0, hx1, HST, HW2⟩
     case measure => simp [intOf]; omega
   ·obtain rfl : j = l := by omega
    have hr := HLK.out
    rw [List.drop_eq_nil_of_le (by rw [HT.out.len]; exact Nat.le_refl _), leftK_nil] at hr
    have HR := Lib.hid hr; clear hr
    go_wp2_with (fail)
    go_ret
    exact ⟨ret_i64 (by rw [HLE.out, HR.out]), HWW.out⟩
end Aterm
end Go.Proofs.YtkfkpjngiffamaaGreatDoor
namespace Go.Proofs.YtkfkpjngiffamaaGreatDoor
open Go.RowKit
set_option linter.unusedVariables false
set_option linter.unusedSimpArgs false
namespace Aterm
open Effect (At AtOk AtsAt Rd RdI ret_i64 ret_bool)
open Rt (box_new box_at below_then)
set_option maxRecDepth 10000 in
theorem great_walk (t : AT) (h : Hd) (v : V) (l : Nat) (w : World) (hT : AtIs w h v l t) :
  Calls Tryz.prog 6 #[.agg #[.int .u8 h.h.k, .int .u8 h.h.op, .int .i64 h.h.pl, .int .i64 h.h.n, .string h.h.name, .string h.h.arg, .string h.h.exn, .int .i64 h.rho, .slice v.ra h.rhos.length v.rc, .slice v.ea h.e.length v.ec, .int .u8 h.ty.h.k, .int .i64 h.ty.h.r, .slice v.tea h.ty.h.e.length v.tec, .slice v.tka h.ty.ks.length v.tkc, .int .u8 h.re.h.k, .int .i64 h.re.h.r, .slice v.sea h.re.h.e.length v.sec, .slice v.ska h.re.ks.length v.skc, .slice v.ka l v.kc]] w fun e w' => e = .returned (.bool (greatT t)) ∧ Below w.heap.size w w' := by
 have HT := Lib.hid hT
 clear hT
 go_enter Tryz.func6, Tryz.ntmps6
 go_upto_region 1 with (fail)
 obtain ⟨W0, hW0⟩ : ∃ W0, W0 = w.alloc (.cells #[.int .u8 h.h.k, .int .u8 h.h.op, .int .i64 h.h.pl, .int .i64 h.h.n, .string h.h.name, .string h.h.arg, .string h.h.exn, .int .i64 h.rho, .slice v.ra h.rhos.length v.rc, .slice v.ea h.e.length v.ec, .int .u8 h.ty.h.k, .int .i64 h.ty.h.r, .slice v.tea h.ty.h.e.length v.tec, .slice v.tka h.ty.ks.length v.tkc, .int .u8 h.re.h.k, .int .i64 h.re.h.r, .slice v.sea h.re.h.e.length v.sec, .slice v.ska h.re.ks.length v.skc, .slice v.ka l v.kc] 31) := ⟨_, rfl⟩
 have hbx : Box W0 w.heap.size h v l := by rw [hW0]; exact box_of (w := w) (h := h) (v := v) (l := l)
 have hb0 : Below w.heap.size w W0 := by rw [hW0]; exact box_new _
 rw [← hW0]
 clear hW0
 generalize hN0 : w.heap.size = N0 at hbx ⊢
 have HB0 := Lib.hid hb0
 have HRG := Lib.hid hbx.range
 clear hb0 hN0 hbx
 go_wp2_with (refine at_load rfl (.tmp 1) rfl N0 0 rfl HRG.out ?_)
 refine (left_walk _ t _ v l 400 _ (Nat.le_refl _) (HT.out.below HB0.out) (by omega) (by omega)).mono ?_
 rintro e w1 ⟨rfl, hb⟩
 have HB := Lib.hid (below_then HB0.out hb HB0.out.size); clear hb
 have hg : greatT t = decide (leftT t 400 < 0) := rfl
 have HG := Lib.hid hg; clear hg
 generalize leftT t 400 = X at *
 go_wp2
 go_ret
 exact ⟨ret_bool HG.out.symm, HB.out⟩
end Aterm
end Go.Proofs.YtkfkpjngiffamaaGreatDoor
namespace Go.Proofs.YtkfkpjngiffamaaGreatDoor
open Go.RowKit
set_option linter.unusedVariables false
set_option linter.unusedSimpArgs false
namespace Aterm
open Rt (box_new box_at below_then)

def Flat (w : World) : List Value → List AT → Prop
 | xs, [] => xs = []
 | xs, t :: ts => ∃ q ys, xs = acells t.h q t.ks.length ++ ys ∧ AtIs w t.h q t.ks.length t ∧ Flat w ys ts
theorem Flat.append {w : World} : ∀ {ts us : List AT} {xs ys : List Value}, Flat w xs ts → Flat w ys us → Flat w (xs ++ ys) (ts ++ us)
 | [], us, xs, ys, h, k => by
  have : xs = [] := h
  subst this
  exact k
 | t :: ts, us, xs, ys, ⟨q, zs, he, hT, h⟩, k => ⟨q, zs ++ ys, by rw [he, List.append_assoc], hT, h.append k⟩
theorem Flat.len {w : World} : ∀ {ts : List AT} {xs : List Value}, Flat w xs ts → xs.length = ts.length * 19
 | [], xs, h => by
  have : xs = [] := h
  subst this
  rfl
 | t :: ts, xs, ⟨q, zs, he, _, h⟩ => by
  rw [he, List.length_append, h.len, List.length_cons]
  simp [acells]
  omega
theorem Flat.one {w : World} {t : AT} {h : Hd} {q : V} {l : Nat} (hT : AtIs w h q l t) : Flat w (acells h q l) [t] := by
 obtain ⟨h1, h2, h3, h4, h5⟩ := hT
 subst h1 h2
 exact ⟨q, [], by simp, ⟨rfl, rfl, h3, h4, h5⟩, rfl⟩
theorem Flat.cells1 {w : World} : ∀ {ts : List AT} {xs : List Value}, Flat w xs ts → ∀ u ∈ xs, u.oneCell' = true
 | [], xs, h, u, hu => by
  have : xs = [] := h
  subst this
  cases hu
 | t :: ts, xs, ⟨q, zs, he, _, h⟩, u, hu => by
  rw [he] at hu
  rcases List.mem_append.1 hu with hu | hu
  ·simp [acells] at hu
   rcases hu with rfl | rfl | rfl | rfl | rfl | rfl | rfl | rfl | rfl | rfl | rfl | rfl | rfl | rfl | rfl | rfl | rfl | rfl | rfl <;> rfl
  ·exact h.cells1 u hu
theorem Flat.get {w : World} : ∀ {ts : List AT} {xs : List Value}, Flat w xs ts → ∀ i, i < ts.length → ∃ q, AtIs w (tget ts i).h q (tget ts i).ks.length (tget ts i) ∧ ∀ j v, (acells (tget ts i).h q (tget ts i).ks.length)[j]? = some v → xs[i * 19 + j]? = some v
 | [], xs, _, i, hi => by simp at hi
 | t :: ts, xs, ⟨q, zs, he, hT, h⟩, 0, _ => by
  refine ⟨q, hT, fun j v hv => ?_⟩
  rw [he, Nat.zero_mul, Nat.zero_add, List.getElem?_append_left ?_]
  ·exact hv
  ·rcases Nat.lt_or_ge j (acells t.h q t.ks.length).length with h | h
   ·exact h
   ·rw [List.getElem?_eq_none (by exact h)] at hv; cases hv
 | t :: ts, xs, ⟨q, zs, he, hT, h⟩, i + 1, hi => by
  obtain ⟨q', h1, h2⟩ := h.get i (by simpa using hi)
  refine ⟨q', h1, fun j v hv => ?_⟩
  rw [he, List.getElem?_append_right (by simp [acells]; omega)]
  have e : (i + 1) * 19 + j - (acells t.h q t.ks.length).length = i * 19 + j := by simp [acells]; omega
  rw [e]
  exact h2 j v hv
theorem Flat.stay {w W : World} (hb : Below w.heap.size w W) : ∀ {ts : List AT} {xs : List Value}, Flat w xs ts → Flat W xs ts
 | [], xs, h => h
 | t :: ts, xs, ⟨q, zs, he, hT, h⟩ => ⟨q, zs, he, hT.below hb, h.stay hb⟩
theorem infoAt : (Tryz.prog.info? 31).map (fun i => (i.zero, i.size, i.bytes)) = some (some (.agg #[.int .u8 0, .int .u8 0, .int .i64 0, .int .i64 0, .string ⟨#[]⟩, .string ⟨#[]⟩, .string ⟨#[]⟩, .int .i64 0, .slice none 0 0, .slice none 0 0, .int .u8 0, .int .i64 0, .slice none 0 0, .slice none 0 0, .int .u8 0, .int .i64 0, .slice none 0 0, .slice none 0 0, .slice none 0 0]), 19, 280) := by kernel_rfl
theorem own_below {w W : World} {B e size n : Nat} {v : Value} {xs : List Value} (h : w.ownsRow B e size v n xs) (hb : Below w.heap.size w W) : W.ownsRow B e size v n xs :=
 h.kept (row := none) ⟨hb.os, hb.tape, hb.output, hb.size, fun q hq _ => hb.block q hq⟩ (by cases v.ownBlock <;> simp)
theorem range_below {w W : World} {b o : Nat} {cs : List Value} (h : w.rangeAt b o cs) (hb : Below w.heap.size w W) : W.rangeAt b o cs :=
 fun j v hv => (hb.cell (p := ⟨b, o + j, none⟩) (World.block_lt_of_cell? w _ (h j v hv))).trans (h j v hv)

set_option maxRecDepth 10000 in
set_option maxHeartbeats 6400000 in
theorem refAll_walk : ∀ (m : Nat) (t : AT) (h : Hd) (v : V) (l : Nat) (w0 w : World), wt t ≤ m → wt t ≤ 1000000 → AtIs w0 h v l t → Below w0.heap.size w0 w →
  Calls Tryz.prog 16 #[.agg #[.int .u8 h.h.k, .int .u8 h.h.op, .int .i64 h.h.pl, .int .i64 h.h.n, .string h.h.name, .string h.h.arg, .string h.h.exn, .int .i64 h.rho, .slice v.ra h.rhos.length v.rc, .slice v.ea h.e.length v.ec, .int .u8 h.ty.h.k, .int .i64 h.ty.h.r, .slice v.tea h.ty.h.e.length v.tec, .slice v.tka h.ty.ks.length v.tkc, .int .u8 h.re.h.k, .int .i64 h.re.h.r, .slice v.sea h.re.h.e.length v.sec, .slice v.ska h.re.ks.length v.skc, .slice v.ka l v.kc]] w fun e w' =>
   ∃ g c' xs, e = .returned (.slice (some ⟨g, 0, none⟩) (wt t) c') ∧ w'.ownsRow w.heap.size 31 19 (.slice (some ⟨g, 0, none⟩) (wt t) c') (wt t) xs ∧ Flat w0 xs (flatT t) ∧ Below w.heap.size w w' := by
 intro m
 induction m with
 | zero => intro t h v l w0 w hm; have := wt_pos t; omega
 | succ m ih =>
  intro t h v l w0 w hm hsz hT hb00
  obtain ⟨i0, hi, hz0, hz1, hz2⟩ := info_parts infoAt
  have HI := Lib.hid hi; have HZ0 := Lib.hid hz0; have HZ1 := Lib.hid hz1; have HZ2 := Lib.hid hz2
  have hone := Flat.one hT
  have hhd := hT.head
  have hlc := (capA hT).1
  have IH := Lib.hid ih; have HT := Lib.hid hT; have HM := Lib.hid hm; have HSZ := Lib.hid hsz; have HB00 := Lib.hid hb00; have HONE := Lib.hid hone; have HHD := Lib.hid hhd
  clear ih hT hm hsz hb00 hi hz0 hz1 hz2 hone hhd
  go_enter Tryz.func16, Tryz.ntmps16
  go_upto_region 1 with (fail)
  obtain ⟨W0, hW0⟩ : ∃ W0, W0 = w.alloc (.cells #[.int .u8 h.h.k, .int .u8 h.h.op, .int .i64 h.h.pl, .int .i64 h.h.n, .string h.h.name, .string h.h.arg, .string h.h.exn, .int .i64 h.rho, .slice v.ra h.rhos.length v.rc, .slice v.ea h.e.length v.ec, .int .u8 h.ty.h.k, .int .i64 h.ty.h.r, .slice v.tea h.ty.h.e.length v.tec, .slice v.tka h.ty.ks.length v.tkc, .int .u8 h.re.h.k, .int .i64 h.re.h.r, .slice v.sea h.re.h.e.length v.sec, .slice v.ska h.re.ks.length v.skc, .slice v.ka l v.kc] 31) := ⟨_, rfl⟩
  have hbx : Box W0 w.heap.size h v l := by rw [hW0]; exact box_of (w := w) (h := h) (v := v) (l := l)
  have hb0 : Below w.heap.size w W0 := by rw [hW0]; exact box_new _
  rw [← hW0]
  clear hW0
  generalize hN0 : w.heap.size = N0 at hbx ⊢
  have HB0 := Lib.hid hb0; have HBX := Lib.hid hbx; have HRG := Lib.hid hbx.range
  obtain ⟨b0, b1, b2, b3, b4, b5, b6, b7, b8, b9, b10, b11, b12, b13, b14, b15, b16, b17, b18⟩ := hbx
  clear hb0 hN0 b0 b1 b2 b3 b4 b5 b6 b7 b8 b9 b10 b11 b12 b13 b14 b15 b16 b17
  go_upto_region 2 with (refine at_load rfl _ rfl N0 0 rfl HRG.out ?_)
  have hrow := World.ownsRow_lit (base := W0.heap.size) (e := 31) (size := 19) W0 #[.int .u8 h.h.k, .int .u8 h.h.op, .int .i64 h.h.pl, .int .i64 h.h.n, .string h.h.name, .string h.h.arg, .string h.h.exn, .int .i64 h.rho, .slice v.ra h.rhos.length v.rc, .slice v.ea h.e.length v.ec, .int .u8 h.ty.h.k, .int .i64 h.ty.h.r, .slice v.tea h.ty.h.e.length v.tec, .slice v.tka h.ty.ks.length v.tkc, .int .u8 h.re.h.k, .int .i64 h.re.h.r, .slice v.sea h.re.h.e.length v.sec, .slice v.ska h.re.ks.length v.skc, .slice v.ka l v.kc] 1 (by omega) (by unfold maxLen; omega) rfl
  obtain ⟨W1, hW1⟩ : ∃ W1, W1 = W0.alloc (.cells #[.int .u8 h.h.k, .int .u8 h.h.op, .int .i64 h.h.pl, .int .i64 h.h.n, .string h.h.name, .string h.h.arg, .string h.h.exn, .int .i64 h.rho, .slice v.ra h.rhos.length v.rc, .slice v.ea h.e.length v.ec, .int .u8 h.ty.h.k, .int .i64 h.ty.h.r, .slice v.tea h.ty.h.e.length v.tec, .slice v.tka h.ty.ks.length v.tkc, .int .u8 h.re.h.k, .int .i64 h.re.h.r, .slice v.sea h.re.h.e.length v.sec, .slice v.ska h.re.ks.length v.skc, .slice v.ka l v.kc] 31) := ⟨_, rfl⟩
  have hb1 : Below W0.heap.size W0 W1 := by rw [hW1]; exact box_new _
  rw [← hW1] at hrow ⊢
  clear hW1
  have c18 := (hb1.cell (p := ⟨N0, 18, none⟩) (World.block_lt_of_cell? W0 _ b18)).trans b18
  have HB1 := Lib.hid hb1; have HROW := Lib.hid hrow
  clear hb1 hrow
  go_wp2_with (fail)
  go_loopw [3, 10] (fun u i wr => ∃ (j : Nat) (xs : List Value), j ≤ l ∧ i = .int .i64 j ∧ Hid (wr.ownsRow W0.heap.size 31 19 u (1 + wts (t.ks.take j)) xs) ∧ Hid (Flat w0 xs (t :: flatK (t.ks.take j))) ∧
   Hid (Below W0.heap.size W0 wr)) (fun _ i _ => l - (intOf i).toNat)
  case atStart =>
   refine ⟨0, _, Nat.zero_le _, rfl, HROW, Lib.hid ?_, HB1⟩
   rw [List.take_zero, flatK_nil]
   exact HONE.out
  case round =>
   clear b18 c18
   obtain ⟨j, xs, hj, rfl, HOWN, HFL, HW⟩ := hrel
   obtain ⟨b0, b1, b2, b3, b4, b5, b6, b7, b8, b9, b10, b11, b12, b13, b14, b15, b16, b17, b18⟩ := HBX.out.below HW.out
   clear b0 b1 b2 b3 b4 b5 b6 b7 b8 b9 b10 b11 b12 b13 b14 b15 b16 b17
   have HWW := Lib.hid (below_then HB0.out HW.out HB0.out.size)
   by_cases hlt : j < l
   ·have hjk : j < t.ks.length := by rw [HT.out.len]; exact hlt
    have hst := flatK_take t.ks j hjk
    have hsw := wts_take_step t.ks j hjk
    have hB0r := HB00.out.trans (HWW.out.mono HB00.out.size)
    obtain ⟨b, o, v', hp, hkid, hrg0⟩ := HT.out.kids.load j hjk
    rw [hp] at b18
    have hrg := range_below hrg0 hB0r
    have hwk := wts_get hjk
    have hwt := wt_ks t
    have hwl := wts_take_le t.ks (j + 1)
    have HST := Lib.hid hst; have HK := Lib.hid hkid; have HSW := Lib.hid hsw; have HWL := Lib.hid hwl; have HB0R := Lib.hid hB0r
    have HWK := Lib.hid hwk; have HWT := Lib.hid hwt; have HRK := Lib.hid hrg
    clear hst hkid hwk hwt hjk hsw hwl hB0r hrg hrg0 hp
    go_wp2_with (refine at_load rfl _ rfl b (o + j * 19) rfl HRK.out ?_)
    refine (IH.out (tget t.ks j) _ v' _ w0 _ (by have := HM.out; have := HWK.out; have := HWT.out; omega) (by have := HSZ.out; have := HWK.out; have := HWT.out; omega) HK.out HB0R.out).mono ?_
    rintro e w2 ⟨g2, c2, ys, rfl, hown2, hfl2, hb2⟩
    have HW2 := Lib.hid (HW.out.trans (hb2.mono HW.out.size))
    have HO2 := Lib.hid (own_below HOWN.out hb2)
    have HC2 := Lib.hid (hown2.cells (g := g2) rfl)
    have HL2 := Lib.hid hown2.1
    have HF2 := Lib.hid hfl2
    have HBS := Lib.hid HW2.out.size
    clear hb2 hown2 hfl2 b18
    obtain ⟨X, hX⟩ : ∃ X, X = wt (tget t.ks j) := ⟨_, rfl⟩
    obtain ⟨Y, hY⟩ : ∃ Y, Y = wts (t.ks.take j) := ⟨_, rfl⟩
    have hbound : 1 + Y + X ≤ 1000000 := by
     have h1 := HSW.out; have h2 := HWL.out; have h3 := HWT.out; have h4 := HSZ.out
     omega
    rw [← hX] at HL2 ⊢
    rw [← hY] at HO2
    have HX := Lib.hid hX; have HY := Lib.hid hY; have HBD := Lib.hid hbound
    clear hX hY hbound
    go_wp2_with (at_builtin; refine wpList_append_own _ rfl (.tmp 13) (.tmp 19) 29 rfl W0.heap.size 31 i0 (.agg #[.int .u8 0, .int .u8 0, .int .i64 0, .int .i64 0, .string ⟨#[]⟩, .string ⟨#[]⟩, .string ⟨#[]⟩, .int .i64 0, .slice none 0 0, .slice none 0 0, .int .u8 0, .int .i64 0, .slice none 0 0, .slice none 0 0, .int .u8 0, .int .i64 0, .slice none 0 0, .slice none 0 0, .slice none 0 0]) 19 280 Tryz.underlying29 HI.out HZ0.out HZ1.out HZ2.out rfl (by decide) _ _ _ rfl HO2.out ⟨g2, 0, none⟩ X c2 ys rfl HL2.out HC2.out (Flat.cells1 HF2.out) (by have := HBD.out; unfold maxLen; omega) (by have := HBD.out; omega) (by have := HBS.out; omega) ?_; intro v3 w3 hown3 hgrow3 hnil3; have AFT := Lib.hid (HW2.out.grown hgrow3 HBS.out (fun q hq => (HO2.out.lt q hq).1)); have HO3 := Lib.hid hown3; clear hown3 hgrow3 hnil3)
    go_roundw
    case rel =>
     refine ⟨j + 1, xs ++ ys, by omega, by go_num, Lib.hid ?_, Lib.hid ?_, AFT⟩
     ·rw [HSW.out, ← HX.out, ← HY.out, show 1 + (Y + X) = 1 + Y + X from by omega]; exact HO3.out
     ·rw [HST.out]; exact HFL.out.append HF2.out
    case measure => simp [intOf]; omega
   ·obtain rfl : j = l := by omega
    have hall : t.ks.take j = t.ks := List.take_of_length_le (by rw [HT.out.len]; exact Nat.le_refl _)
    have ho := HOWN.out
    have hf := HFL.out
    rw [hall] at ho hf
    rw [← flatT_eq] at hf
    have hwt := wt_ks t
    rw [show 1 + wts t.ks = wt t from by omega] at ho
    obtain ⟨g, cap, hv⟩ : ∃ g cap, u3 = .slice (some ⟨g, 0, none⟩) (wt t) cap := by
     rcases ho.2 with ⟨_, h0⟩ | ⟨g, cap, _, hv, _⟩
     ·have := wt_pos t; omega
     ·exact ⟨g, cap, hv⟩
    subst hv
    have HO := Lib.hid ho; have HF := Lib.hid hf
    clear ho hf hall hwt
    go_wp2_with (fail)
    go_ret
    refine ⟨g, cap, xs, rfl, ?_, HF.out, HWW.out⟩
    have hsz := HB0.out.size
    exact ⟨HO.out.1, HO.out.2.imp id (fun ⟨g, cap, cur, a, b, r⟩ => ⟨g, cap, cur, a, by omega, r⟩)⟩
end Aterm
end Go.Proofs.YtkfkpjngiffamaaGreatDoor
namespace Go.Proofs.YtkfkpjngiffamaaGreatDoor
open Go.RowKit
set_option linter.unusedVariables false
set_option linter.unusedSimpArgs false
namespace Aterm
open Effect (RdI nget nget_at nget_mem Ixs intsV own_slice)
open Rt (box_new box_at below_then)

theorem rd_one {W : World} {N : Nat} {x : Int} {ty : TypeId} (hN : N = W.heap.size) (hx : -9223372036854775808 ≤ x ∧ x ≤ 9223372036854775807) : RdI (W.alloc (.cells #[.int .i64 x] ty)) 1 (some ⟨N, 0, none⟩) [x] := by
 subst hN
 refine ⟨rfl, .inr ⟨_, 0, rfl, fun i hi => ?_⟩, fun y hy => by rw [List.mem_singleton] at hy; subst hy; exact hx⟩
 have hi0 : i = 0 := by simp at hi; omega
 subst hi0
 rw [World.cell?_alloc_mark]; rfl
theorem rd_nil (W : World) (p : Option Addr) : RdI W 0 p [] := ⟨rfl, .inl rfl, fun x hx => by cases hx⟩

end Aterm
end Go.Proofs.YtkfkpjngiffamaaGreatDoor
namespace Go.Proofs.YtkfkpjngiffamaaGreatDoor
open Go.RowKit
set_option linter.unusedVariables false
set_option linter.unusedSimpArgs false
namespace Aterm
open Effect (nget nget_at nget_mem ret_bool)
open Rt (box_new box_at box4)

structure RdB (w : World) (n : Nat) (p : Option Addr) (l : List Int) : Prop where
 len : l.length = n
 at_ : l = [] ∨ ∃ b o, p = some ⟨b, o, none⟩ ∧ ∀ i, i < l.length → w.cell? ⟨b, o + i, none⟩ = some (.int .u8 (nget l i))
theorem RdB.get {w : World} {n : Nat} {p : Option Addr} {l : List Int} (h : RdB w n p l) (i : Nat) (hi : i < l.length) : ∃ b o, p = some ⟨b, o, none⟩ ∧ w.cell? ⟨b, o + i, none⟩ = some (.int .u8 (nget l i)) := by
 rcases h.at_ with rfl | ⟨b, o, hp, hc⟩
 ·simp at hi
 ·exact ⟨b, o, hp, hc i hi⟩
theorem RdB.new {W : World} {N : Nat} {ty : TypeId} {l : List Int} (hN : N = W.heap.size) : RdB (W.alloc (.cells (l.map (Value.int .u8)).toArray ty)) l.length (some ⟨N, 0, none⟩) l := by
 subst hN
 refine ⟨rfl, .inr ⟨_, 0, rfl, fun i hi => ?_⟩⟩
 rw [World.cell?_alloc_mark]
 simp only [List.getElem?_toArray, List.getElem?_map, Nat.zero_add, nget_at hi, Option.map_some]
set_option maxRecDepth 100000 in
set_option maxHeartbeats 6400000 in
theorem in_walk {n c : Nat} {a : Option Addr} {l : List Int} {w : World} (h : RdB w n a l) (hn : n ≤ 100000) (x : Int) : Calls Tryz.prog 35 #[.slice a n c, .int .u8 x] w fun e w' => e = .returned (.bool (l.contains x)) ∧ w' = w := by
 have H := Lib.hid h
 clear h
 go_enter Tryz.func35, Tryz.ntmps35
 go_wp2_with (fail)
 go_loopw [5, 8] (fun _ i wr => ∃ j : Nat, j ≤ n ∧ i = .int .i64 (j : Int) ∧ Hid (wr = w) ∧ Hid (∀ i, i < j → nget l i ≠ x)) (fun _ i _ => n - (intOf i).toNat)
 case atStart => exact ⟨0, Nat.zero_le _, rfl, Lib.hid rfl, Lib.hid (fun i hi => absurd hi (Nat.not_lt_zero _))⟩
 case round =>
  obtain ⟨j, hj, rfl, HW, HA⟩ := hrel
  by_cases hlt : j < n
  ·have hjl : j < l.length := by rw [H.out.len]; exact hlt
   obtain ⟨b1, o1, rfl, e0⟩ := H.out.get j hjl
   rw [← HW.out] at e0
   by_cases hx : nget l j = x
   ·have HC := Lib.hid (show l.contains x = true by simp; rw [← hx]; exact nget_mem hjl)
    rw [hx] at e0
    have hxx : (x == x) = true := by simp
    clear hx hjl
    go_wp2_with (fail)
    go_ret
    exact ⟨ret_bool HC.out.symm, HW.out⟩
   ·have hxx : (nget l j == x) = false := by simpa using hx
    have HX := Lib.hid hx
    clear hx hjl
    go_wp2_with (fail)
    go_roundw
    case rel => exact ⟨j + 1, by omega, by go_num, HW, Lib.hid fun i hi => by
      by_cases e : i = j
      ·rw [e]; exact HX.out
      ·exact HA.out i (by omega)⟩
    case measure => simp [intOf]; omega
  ·obtain rfl : j = n := by omega
   have HC := Lib.hid (show l.contains x = false by
    rw [Bool.eq_false_iff]
    intro hc
    have hmem : x ∈ l := by simpa using hc
    obtain ⟨i, hi, e⟩ := List.mem_iff_getElem.1 hmem
    refine HA.out i (by rw [← H.out.len]; exact hi) ?_
    have := nget_at hi
    rw [List.getElem?_eq_getElem hi, e] at this
    exact (Option.some.inj this).symm)
   go_wp2_with (fail)
   go_ret
   exact ⟨ret_bool HC.out.symm, HW.out⟩

def plainB (t : Rt.RT) : Bool := decide (t.h.k = 0 ∧ t.h.r = 0 ∧ t.h.e.length = 0 ∧ t.ks.length = 0)
set_option maxRecDepth 10000 in
theorem plain_walk (t : Rt.RT) (pe : Option Addr) (ce : Nat) (p : Option Addr) (c : Nat) (w : World) (hl : t.ks.length ≤ 9223372036854775807) (he : t.h.e.length ≤ 9223372036854775807) :
  Calls Tryz.prog 39 #[.agg #[.int .u8 t.h.k, .int .i64 t.h.r, .slice pe t.h.e.length ce, .slice p t.ks.length c]] w fun e w' => e = .returned (.bool (plainB t)) ∧ Below w.heap.size w w' := by
 have hp : plainB t = decide (t.h.k = 0 ∧ t.h.r = 0 ∧ t.h.e.length = 0 ∧ t.ks.length = 0) := rfl
 have hbox : ∀ O : Obj, Below w.heap.size w (w.alloc O) := fun O => box_new O
 have HBOX := Lib.hid hbox
 clear hbox
 generalize t.h.e.length = n at *
 generalize t.ks.length = l at *
 generalize t.h.k = k at *
 generalize t.h.r = r at *
 generalize plainB t = B at *
 by_cases h1 : k = 0
 ·subst h1
  by_cases h2 : r = 0
  ·subst h2
   by_cases h3 : n = 0
   ·subst h3
    by_cases h4 : l = 0
    ·subst h4
     have HP := Lib.hid (show B = true by rw [hp]; simp)
     clear hp
     go_enter Tryz.func39, Tryz.ntmps39
     go_wp2_with (fail)
     go_ret
     exact ⟨ret_bool HP.out.symm, HBOX.out _⟩
    ·have HP := Lib.hid (show B = false by rw [hp]; simp [h4])
     have hx : ((l : Int) == 0) = false := by rw [beq_eq_false_iff_ne]; omega
     clear hp h4
     go_enter Tryz.func39, Tryz.ntmps39
     go_wp2_with (fail)
     go_ret
     exact ⟨ret_bool HP.out.symm, HBOX.out _⟩
   ·have HP := Lib.hid (show B = false by rw [hp]; simp [h3])
    have hx : ((n : Int) == 0) = false := by rw [beq_eq_false_iff_ne]; omega
    clear hp h3
    go_enter Tryz.func39, Tryz.ntmps39
    go_wp2_with (fail)
    go_ret
    exact ⟨ret_bool HP.out.symm, HBOX.out _⟩
  ·have HP := Lib.hid (show B = false by rw [hp]; simp [h2])
   have hx : (r == 0) = false := by simpa using h2
   clear hp h2
   go_enter Tryz.func39, Tryz.ntmps39
   go_wp2_with (fail)
   go_ret
   exact ⟨ret_bool HP.out.symm, HBOX.out _⟩
 ·have HP := Lib.hid (show B = false by rw [hp]; simp [h1])
  have hx : (k == 0) = false := by simpa using h1
  clear hp h1
  go_enter Tryz.func39, Tryz.ntmps39
  go_wp2_with (fail)
  go_ret
  exact ⟨ret_bool HP.out.symm, HBOX.out _⟩
end Aterm
end Go.Proofs.YtkfkpjngiffamaaGreatDoor
namespace Go.Proofs.YtkfkpjngiffamaaGreatDoor
open Go.RowKit
set_option linter.unusedVariables false
namespace Term

mutual
def flatT : Tm → List Tm
 | .node h l => .node h l :: flatK l
def flatK : List Tm → List Tm
 | [] => []
 | t :: ts => flatT t ++ flatK ts
end
theorem flatT_eq (t : Tm) : flatT t = t :: flatK t.ks := by cases t; unfold flatT; rfl
theorem flatK_nil : flatK [] = [] := by unfold flatK; rfl
theorem flatK_cons (t : Tm) (ts : List Tm) : flatK (t :: ts) = flatT t ++ flatK ts := by conv => lhs; unfold flatK
theorem flatK_append : ∀ ts us : List Tm, flatK (ts ++ us) = flatK ts ++ flatK us
 | [], us => by rw [flatK_nil]; rfl
 | t :: ts, us => by rw [List.cons_append, flatK_cons, flatK_cons, flatK_append ts us, List.append_assoc]
theorem flat_len : ∀ m : Nat, (∀ t, wt t ≤ m → (flatT t).length = wt t) ∧ (∀ ts, wts ts ≤ m → (flatK ts).length = wts ts) := by
 intro m
 induction m with
 | zero =>
  refine ⟨fun t h => by have := wt_pos t; omega, fun ts h => ?_⟩
  cases ts with
  | nil => rw [flatK_nil, wts_nil]; rfl
  | cons t ts => rw [wts_cons] at h; have := wt_pos t; omega
 | succ m ih =>
  have hT : ∀ t, wt t ≤ m + 1 → (flatT t).length = wt t := by
   intro t h
   have hk := wt_ks t
   have := ih.2 t.ks (by omega)
   rw [flatT_eq, List.length_cons, this]
   omega
  refine ⟨hT, fun ts => ?_⟩
  induction ts with
  | nil => intro _; rw [flatK_nil, wts_nil]; rfl
  | cons t ts ihs =>
   intro h
   rw [wts_cons] at h
   rw [flatK_cons, wts_cons, List.length_append, hT t (by omega), ihs (by omega)]
theorem flatT_len (t : Tm) : (flatT t).length = wt t := (flat_len (wt t)).1 t (Nat.le_refl _)
theorem flatK_take (ts : List Tm) (k : Nat) (h : k < ts.length) : flatK (ts.take (k + 1)) = flatK (ts.take k) ++ flatT (tget ts k) := by
 rw [take_tget ts k h, flatK_append, flatK_cons, flatK_nil, List.append_nil]
def Flat (w : World) : List Value → List Tm → Prop
 | xs, [] => xs = []
 | xs, t :: ts => ∃ q c ys, xs = tcells t.h q t.ks.length c ++ ys ∧ TmIs w t.h q t.ks.length c t ∧ Flat w ys ts
theorem Flat.append {w : World} : ∀ {ts us : List Tm} {xs ys : List Value}, Flat w xs ts → Flat w ys us → Flat w (xs ++ ys) (ts ++ us)
 | [], us, xs, ys, h, k => by
  have : xs = [] := h
  subst this
  exact k
 | t :: ts, us, xs, ys, ⟨q, c, zs, he, hT, h⟩, k => ⟨q, c, zs ++ ys, by rw [he, List.append_assoc], hT, h.append k⟩
theorem Flat.len {w : World} : ∀ {ts : List Tm} {xs : List Value}, Flat w xs ts → xs.length = ts.length * 8
 | [], xs, h => by
  have : xs = [] := h
  subst this
  rfl
 | t :: ts, xs, ⟨q, c, zs, he, _, h⟩ => by
  rw [he, List.length_append, h.len, List.length_cons]
  simp [tcells]
  omega
theorem Flat.one {w : World} {t : Tm} {h : Hd} {q : Option Addr} {l c : Nat} (hT : TmIs w h q l c t) : Flat w (tcells h q l c) [t] := by
 obtain ⟨h1, h2, h3, h4, h5⟩ := hT
 subst h1 h2
 exact ⟨q, c, [], by simp, ⟨rfl, rfl, h3, h4, h5⟩, rfl⟩
theorem Flat.cells1 {w : World} : ∀ {ts : List Tm} {xs : List Value}, Flat w xs ts → ∀ u ∈ xs, u.oneCell' = true
 | [], xs, h, u, hu => by
  have : xs = [] := h
  subst this
  cases hu
 | t :: ts, xs, ⟨q, c, zs, he, _, h⟩, u, hu => by
  rw [he] at hu
  rcases List.mem_append.1 hu with hu | hu
  ·simp [tcells] at hu
   rcases hu with rfl | rfl | rfl | rfl | rfl | rfl | rfl | rfl <;> rfl
  ·exact h.cells1 u hu
theorem Flat.get {w : World} : ∀ {ts : List Tm} {xs : List Value}, Flat w xs ts → ∀ i, i < ts.length → ∃ q c, TmIs w (tget ts i).h q (tget ts i).ks.length c (tget ts i) ∧ ∀ j v, (tcells (tget ts i).h q (tget ts i).ks.length c)[j]? = some v → xs[i * 8 + j]? = some v
 | [], xs, _, i, hi => by simp at hi
 | t :: ts, xs, ⟨q, c, zs, he, hT, h⟩, 0, _ => by
  refine ⟨q, c, hT, fun j v hv => ?_⟩
  rw [he, Nat.zero_mul, Nat.zero_add, List.getElem?_append_left ?_]
  ·exact hv
  ·rcases Nat.lt_or_ge j (tcells t.h q t.ks.length c).length with h | h
   ·exact h
   ·rw [List.getElem?_eq_none (by exact h)] at hv; cases hv
 | t :: ts, xs, ⟨q, c, zs, he, hT, h⟩, i + 1, hi => by
  obtain ⟨q', c', h1, h2⟩ := h.get i (by simpa using hi)
  refine ⟨q', c', h1, fun j v hv => ?_⟩
  rw [he, List.getElem?_append_right (by simp [tcells]; omega)]
  have e : (i + 1) * 8 + j - (tcells t.h q t.ks.length c).length = i * 8 + j := by simp [tcells]; omega
  rw [e]
  exact h2 j v hv
theorem Flat.stay {w W : World} (hb : Below w.heap.size w W) : ∀ {ts : List Tm} {xs : List Value}, Flat w xs ts → Flat W xs ts
 | [], xs, h => h
 | t :: ts, xs, ⟨q, c, zs, he, hT, h⟩ => ⟨q, c, zs, he, hT.below hb, h.stay hb⟩
theorem infoTerm : (Tryz.prog.info? 89).map (fun i => (i.zero, i.size, i.bytes)) = some (some (.agg #[.int .u8 0, .int .u8 0, .int .i64 0, .int .i64 0, .string ⟨#[]⟩, .string ⟨#[]⟩, .string ⟨#[]⟩, .slice none 0 0]), 8, 96) := by kernel_rfl
end Term
end Go.Proofs.YtkfkpjngiffamaaGreatDoor
namespace Go.Proofs.YtkfkpjngiffamaaGreatDoor
open Go.RowKit
set_option linter.unusedVariables false
namespace Term
open Words (nameB exnB)

mutual
def okT : Tm → Bool
 | .node h l => nodeB h l.length && okK l
def okK : List Tm → Bool
 | [] => true
 | t :: ts => okT t && okK ts
end
theorem okT_eq (t : Tm) : okT t = (nodeB t.h t.ks.length && okK t.ks) := by
 cases t
 conv => lhs; unfold okT
 rfl
theorem okK_nil : okK [] = true := by unfold okK; rfl
theorem okK_cons (t : Tm) (ts : List Tm) : okK (t :: ts) = (okT t && okK ts) := by conv => lhs; unfold okK
def mayT (t : Tm) : Bool := decide (wt t ≤ 4000) && okT t
end Term
end Go.Proofs.YtkfkpjngiffamaaGreatDoor
