/-The walks of the document's Great of terms with regions; boxes of such terms. The walk of the document's Great of terms with regions. The walk of the document's row of all nodes of a term with regions. Within and Same of the program. The document's: is one within another one. The walk of EffectWithin. The walks of the program's Same and of the document's, of types with regions. -/
import Derived.Test.YtolpdhkgkjnbfaaGreatDoorGC05
import Derived.IntWalk
import Derived.StillTailTactics
import Derived.OwnWalk
import Derived.Laws.AppendOwn
import Derived.Test.YtolpdhkgkjnbfaaGreatDoorGC03
namespace Go.Proofs.YtolpdhkgkjnbfaaGreatDoor
open Go.RowKit
set_option linter.unusedVariables false
set_option linter.unusedSimpArgs false
namespace Aterm
open Effect (At AtOk AtsAt Rd RdI ret_i64 ret_bool)
open Rt (box_new box_at below_then)

theorem box19 {V W : World} {N : Nat} (hN : N = V.heap.size) {a0 a1 a2 a3 a4 a5 a6 a7 a8 a9 a10 a11 a12 a13 a14 a15 a16 a17 a18 : Value} {ty : TypeId} (hb : Below (V.alloc (.cells #[a0, a1, a2, a3, a4, a5, a6, a7, a8, a9, a10, a11, a12, a13, a14, a15, a16, a17, a18] ty)).heap.size (V.alloc (.cells #[a0, a1, a2, a3, a4, a5, a6, a7, a8, a9, a10, a11, a12, a13, a14, a15, a16, a17, a18] ty)) W) :
    W.cell? ⟨N, 0, none⟩ = some a0 ∧ W.cell? ⟨N, 1, none⟩ = some a1 ∧ W.cell? ⟨N, 2, none⟩ = some a2 ∧ W.cell? ⟨N, 3, none⟩ = some a3 ∧ W.cell? ⟨N, 4, none⟩ = some a4 ∧ W.cell? ⟨N, 5, none⟩ = some a5 ∧ W.cell? ⟨N, 6, none⟩ = some a6 ∧ W.cell? ⟨N, 7, none⟩ = some a7 ∧ W.cell? ⟨N, 8, none⟩ = some a8 ∧ W.cell? ⟨N, 9, none⟩ = some a9 ∧ W.cell? ⟨N, 10, none⟩ = some a10 ∧ W.cell? ⟨N, 11, none⟩ = some a11 ∧ W.cell? ⟨N, 12, none⟩ = some a12 ∧ W.cell? ⟨N, 13, none⟩ = some a13 ∧ W.cell? ⟨N, 14, none⟩ = some a14 ∧ W.cell? ⟨N, 15, none⟩ = some a15 ∧ W.cell? ⟨N, 16, none⟩ = some a16 ∧ W.cell? ⟨N, 17, none⟩ = some a17 ∧ W.cell? ⟨N, 18, none⟩ = some a18 := by
  subst hN
  exact ⟨box_at hb 0 rfl, box_at hb 1 rfl, box_at hb 2 rfl, box_at hb 3 rfl, box_at hb 4 rfl, box_at hb 5 rfl, box_at hb 6 rfl, box_at hb 7 rfl, box_at hb 8 rfl, box_at hb 9 rfl, box_at hb 10 rfl, box_at hb 11 rfl, box_at hb 12 rfl, box_at hb 13 rfl, box_at hb 14 rfl, box_at hb 15 rfl, box_at hb 16 rfl, box_at hb 17 rfl, box_at hb 18 rfl⟩
/-- A box of a term with regions. -/
def Box (w : World) (N : Nat) (h : Hd) (v : V) (l : Nat) : Prop := w.cell? ⟨N, 0, none⟩ = some (.int .u8 h.h.k) ∧ w.cell? ⟨N, 1, none⟩ = some (.int .u8 h.h.op) ∧ w.cell? ⟨N, 2, none⟩ = some (.int .i64 h.h.pl) ∧ w.cell? ⟨N, 3, none⟩ = some (.int .i64 h.h.n) ∧ w.cell? ⟨N, 4, none⟩ = some (.string h.h.name) ∧ w.cell? ⟨N, 5, none⟩ = some (.string h.h.arg) ∧ w.cell? ⟨N, 6, none⟩ = some (.string h.h.exn) ∧ w.cell? ⟨N, 7, none⟩ = some (.int .i64 h.rho) ∧ w.cell? ⟨N, 8, none⟩ = some (.slice v.ra h.rhos.length v.rc) ∧ w.cell? ⟨N, 9, none⟩ = some (.slice v.ea h.e.length v.ec) ∧ w.cell? ⟨N, 10, none⟩ = some (.int .u8 h.ty.h.k) ∧ w.cell? ⟨N, 11, none⟩ = some (.int .i64 h.ty.h.r) ∧ w.cell? ⟨N, 12, none⟩ = some (.slice v.tea h.ty.h.e.length v.tec) ∧ w.cell? ⟨N, 13, none⟩ = some (.slice v.tka h.ty.ks.length v.tkc) ∧ w.cell? ⟨N, 14, none⟩ = some (.int .u8 h.re.h.k) ∧ w.cell? ⟨N, 15, none⟩ = some (.int .i64 h.re.h.r) ∧ w.cell? ⟨N, 16, none⟩ = some (.slice v.sea h.re.h.e.length v.sec) ∧ w.cell? ⟨N, 17, none⟩ = some (.slice v.ska h.re.ks.length v.skc) ∧ w.cell? ⟨N, 18, none⟩ = some (.slice v.ka l v.kc)
theorem box_of {w : World} {h : Hd} {v : V} {l : Nat} {ty : TypeId} : Box (w.alloc (.cells #[.int .u8 h.h.k, .int .u8 h.h.op, .int .i64 h.h.pl, .int .i64 h.h.n, .string h.h.name, .string h.h.arg, .string h.h.exn, .int .i64 h.rho, .slice v.ra h.rhos.length v.rc, .slice v.ea h.e.length v.ec, .int .u8 h.ty.h.k, .int .i64 h.ty.h.r, .slice v.tea h.ty.h.e.length v.tec, .slice v.tka h.ty.ks.length v.tkc, .int .u8 h.re.h.k, .int .i64 h.re.h.r, .slice v.sea h.re.h.e.length v.sec, .slice v.ska h.re.ks.length v.skc, .slice v.ka l v.kc] ty)) w.heap.size h v l := box19 (V := w) rfl (Below.refl _ _)
theorem Box.below {w W : World} {N : Nat} {h : Hd} {v : V} {l : Nat} (k : Box w N h v l) (hb : Below w.heap.size w W) : Box W N h v l := by
  obtain ⟨b0, b1, b2, b3, b4, b5, b6, b7, b8, b9, b10, b11, b12, b13, b14, b15, b16, b17, b18⟩ := k
  have hlt : N < w.heap.size := World.block_lt_of_cell? w _ b0
  exact ⟨(hb.cell (p := ⟨N, 0, none⟩) hlt).trans b0, (hb.cell (p := ⟨N, 1, none⟩) hlt).trans b1, (hb.cell (p := ⟨N, 2, none⟩) hlt).trans b2, (hb.cell (p := ⟨N, 3, none⟩) hlt).trans b3, (hb.cell (p := ⟨N, 4, none⟩) hlt).trans b4, (hb.cell (p := ⟨N, 5, none⟩) hlt).trans b5, (hb.cell (p := ⟨N, 6, none⟩) hlt).trans b6, (hb.cell (p := ⟨N, 7, none⟩) hlt).trans b7, (hb.cell (p := ⟨N, 8, none⟩) hlt).trans b8, (hb.cell (p := ⟨N, 9, none⟩) hlt).trans b9, (hb.cell (p := ⟨N, 10, none⟩) hlt).trans b10, (hb.cell (p := ⟨N, 11, none⟩) hlt).trans b11, (hb.cell (p := ⟨N, 12, none⟩) hlt).trans b12, (hb.cell (p := ⟨N, 13, none⟩) hlt).trans b13, (hb.cell (p := ⟨N, 14, none⟩) hlt).trans b14, (hb.cell (p := ⟨N, 15, none⟩) hlt).trans b15, (hb.cell (p := ⟨N, 16, none⟩) hlt).trans b16, (hb.cell (p := ⟨N, 17, none⟩) hlt).trans b17, (hb.cell (p := ⟨N, 18, none⟩) hlt).trans b18⟩
theorem Box.range {w : World} {N : Nat} {h : Hd} {v : V} {l : Nat} (k : Box w N h v l) : w.rangeAt N 0 (acells h v l) := by
  obtain ⟨b0, b1, b2, b3, b4, b5, b6, b7, b8, b9, b10, b11, b12, b13, b14, b15, b16, b17, b18⟩ := k
  intro j x hx
  match j, hx with
  | 0, hx => cases hx; exact b0
  | 1, hx => cases hx; exact b1
  | 2, hx => cases hx; exact b2
  | 3, hx => cases hx; exact b3
  | 4, hx => cases hx; exact b4
  | 5, hx => cases hx; exact b5
  | 6, hx => cases hx; exact b6
  | 7, hx => cases hx; exact b7
  | 8, hx => cases hx; exact b8
  | 9, hx => cases hx; exact b9
  | 10, hx => cases hx; exact b10
  | 11, hx => cases hx; exact b11
  | 12, hx => cases hx; exact b12
  | 13, hx => cases hx; exact b13
  | 14, hx => cases hx; exact b14
  | 15, hx => cases hx; exact b15
  | 16, hx => cases hx; exact b16
  | 17, hx => cases hx; exact b17
  | 18, hx => cases hx; exact b18
  | _ + 19, hx => simp [acells] at hx
theorem capA {w : World} {h : Hd} {v : V} {l : Nat} {t : AT} (hT : AtIs w h v l t) : l ≤ 9223372036854775807 ∧ h.rhos.length ≤ 9223372036854775807 ∧ h.e.length ≤ 9223372036854775807 ∧ h.h.name.size ≤ 9223372036854775807 ∧ h.h.arg.size ≤ 9223372036854775807 ∧ h.h.exn.size ≤ 9223372036854775807 := by
  have h1 := hT.cap
  have h2 := hT.ok.rcap
  have h3 := hT.ok.eff.cap
  have h4 := hT.ok.hd.name
  have h5 := hT.ok.hd.arg
  have h6 := hT.ok.hd.exn
  unfold maxLen at h1 h2 h3 h4 h5 h6
  omega

set_option maxRecDepth 10000 in
set_option maxHeartbeats 3200000 in
theorem left_long (t : AT) (h : Hd) (v : V) (l : Nat) (n : Int) (w : World) (hT : AtIs w h v l t) (hn0 : 0 ≤ n) (hn1 : n ≤ 400) (hl : 100 < h.h.name.size ∨ 100 < h.h.arg.size ∨ 100 < h.h.exn.size ∨ 50 < h.rhos.length) :
    Calls Tryz.prog 16 #[.agg #[.int .u8 h.h.k, .int .u8 h.h.op, .int .i64 h.h.pl, .int .i64 h.h.n, .string h.h.name, .string h.h.arg, .string h.h.exn, .int .i64 h.rho, .slice v.ra h.rhos.length v.rc, .slice v.ea h.e.length v.ec, .int .u8 h.ty.h.k, .int .i64 h.ty.h.r, .slice v.tea h.ty.h.e.length v.tec, .slice v.tka h.ty.ks.length v.tkc, .int .u8 h.re.h.k, .int .i64 h.re.h.r, .slice v.sea h.re.h.e.length v.sec, .slice v.ska h.re.ks.length v.skc, .slice v.ka l v.kc], .int .i64 n] w fun e w' => e = .returned (.int .i64 (leftT t n)) ∧ Below w.heap.size w w' := by
    have hle := leftT_eq t n
    rw [hT.head, show longB h = true from by unfold longB; simp [hl], if_pos rfl] at hle
    obtain ⟨hlc, hrc, hec, s4, s5, s6⟩ := capA hT
    obtain ⟨⟨k, op, pl, nn, nm, ar, ex⟩, rho, rhos, e, ty, re⟩ := h
    simp only at hl hrc hec s4 s5 s6
    have HLE := Lib.hid hle; clear hle
    clear hT
    by_cases h4 : 100 < nm.size
    · clear hl
      go_enter Tryz.func16, Tryz.ntmps16
      go_upto_region 1 with (fail)
      obtain ⟨W0, hW0⟩ : ∃ W0, W0 = (w.alloc (.cells #[.int .u8 k, .int .u8 op, .int .i64 pl, .int .i64 nn, .string nm, .string ar, .string ex, .int .i64 rho, .slice v.ra rhos.length v.rc, .slice v.ea e.length v.ec, .int .u8 ty.h.k, .int .i64 ty.h.r, .slice v.tea ty.h.e.length v.tec, .slice v.tka ty.ks.length v.tkc, .int .u8 re.h.k, .int .i64 re.h.r, .slice v.sea re.h.e.length v.sec, .slice v.ska re.ks.length v.skc, .slice v.ka l v.kc] 31)) := ⟨_, rfl⟩
      have hbx : Box W0 w.heap.size ⟨⟨k, op, pl, nn, nm, ar, ex⟩, rho, rhos, e, ty, re⟩ v l := by rw [hW0]; exact box_of (w := w) (h := ⟨⟨k, op, pl, nn, nm, ar, ex⟩, rho, rhos, e, ty, re⟩) (v := v) (l := l)
      have hb0 : Below w.heap.size w W0 := by rw [hW0]; exact box_new _
      rw [← hW0]
      clear hW0
      generalize hN0 : w.heap.size = N0 at hbx ⊢
      have HBX := Lib.hid hbx; have HB0 := Lib.hid hb0
      obtain ⟨b0, b1, b2, b3, b4, b5, b6, b7, b8, b9, b10, b11, b12, b13, b14, b15, b16, b17, b18⟩ := hbx
      simp only at b0 b1 b2 b3 b4 b5 b6 b7 b8 b9 b10 b11 b12 b13 b14 b15 b16 b17 b18
      clear hb0 hN0
      go_wp2_with (fail)
      go_ret
      exact ⟨ret_i64 HLE.out.symm, HB0.out⟩
    by_cases h5 : 100 < ar.size
    · clear hl
      go_enter Tryz.func16, Tryz.ntmps16
      go_upto_region 1 with (fail)
      obtain ⟨W0, hW0⟩ : ∃ W0, W0 = (w.alloc (.cells #[.int .u8 k, .int .u8 op, .int .i64 pl, .int .i64 nn, .string nm, .string ar, .string ex, .int .i64 rho, .slice v.ra rhos.length v.rc, .slice v.ea e.length v.ec, .int .u8 ty.h.k, .int .i64 ty.h.r, .slice v.tea ty.h.e.length v.tec, .slice v.tka ty.ks.length v.tkc, .int .u8 re.h.k, .int .i64 re.h.r, .slice v.sea re.h.e.length v.sec, .slice v.ska re.ks.length v.skc, .slice v.ka l v.kc] 31)) := ⟨_, rfl⟩
      have hbx : Box W0 w.heap.size ⟨⟨k, op, pl, nn, nm, ar, ex⟩, rho, rhos, e, ty, re⟩ v l := by rw [hW0]; exact box_of (w := w) (h := ⟨⟨k, op, pl, nn, nm, ar, ex⟩, rho, rhos, e, ty, re⟩) (v := v) (l := l)
      have hb0 : Below w.heap.size w W0 := by rw [hW0]; exact box_new _
      rw [← hW0]
      clear hW0
      generalize hN0 : w.heap.size = N0 at hbx ⊢
      have HBX := Lib.hid hbx; have HB0 := Lib.hid hb0
      obtain ⟨b0, b1, b2, b3, b4, b5, b6, b7, b8, b9, b10, b11, b12, b13, b14, b15, b16, b17, b18⟩ := hbx
      simp only at b0 b1 b2 b3 b4 b5 b6 b7 b8 b9 b10 b11 b12 b13 b14 b15 b16 b17 b18
      clear hb0 hN0
      go_wp2_with (fail)
      go_ret
      exact ⟨ret_i64 HLE.out.symm, HB0.out⟩
    by_cases h6 : 100 < ex.size
    · clear hl
      go_enter Tryz.func16, Tryz.ntmps16
      go_upto_region 1 with (fail)
      obtain ⟨W0, hW0⟩ : ∃ W0, W0 = (w.alloc (.cells #[.int .u8 k, .int .u8 op, .int .i64 pl, .int .i64 nn, .string nm, .string ar, .string ex, .int .i64 rho, .slice v.ra rhos.length v.rc, .slice v.ea e.length v.ec, .int .u8 ty.h.k, .int .i64 ty.h.r, .slice v.tea ty.h.e.length v.tec, .slice v.tka ty.ks.length v.tkc, .int .u8 re.h.k, .int .i64 re.h.r, .slice v.sea re.h.e.length v.sec, .slice v.ska re.ks.length v.skc, .slice v.ka l v.kc] 31)) := ⟨_, rfl⟩
      have hbx : Box W0 w.heap.size ⟨⟨k, op, pl, nn, nm, ar, ex⟩, rho, rhos, e, ty, re⟩ v l := by rw [hW0]; exact box_of (w := w) (h := ⟨⟨k, op, pl, nn, nm, ar, ex⟩, rho, rhos, e, ty, re⟩) (v := v) (l := l)
      have hb0 : Below w.heap.size w W0 := by rw [hW0]; exact box_new _
      rw [← hW0]
      clear hW0
      generalize hN0 : w.heap.size = N0 at hbx ⊢
      have HBX := Lib.hid hbx; have HB0 := Lib.hid hb0
      obtain ⟨b0, b1, b2, b3, b4, b5, b6, b7, b8, b9, b10, b11, b12, b13, b14, b15, b16, b17, b18⟩ := hbx
      simp only at b0 b1 b2 b3 b4 b5 b6 b7 b8 b9 b10 b11 b12 b13 b14 b15 b16 b17 b18
      clear hb0 hN0
      go_wp2_with (fail)
      go_ret
      exact ⟨ret_i64 HLE.out.symm, HB0.out⟩
    · have h7 : 50 < rhos.length := by omega
      clear hl
      go_enter Tryz.func16, Tryz.ntmps16
      go_upto_region 1 with (fail)
      obtain ⟨W0, hW0⟩ : ∃ W0, W0 = (w.alloc (.cells #[.int .u8 k, .int .u8 op, .int .i64 pl, .int .i64 nn, .string nm, .string ar, .string ex, .int .i64 rho, .slice v.ra rhos.length v.rc, .slice v.ea e.length v.ec, .int .u8 ty.h.k, .int .i64 ty.h.r, .slice v.tea ty.h.e.length v.tec, .slice v.tka ty.ks.length v.tkc, .int .u8 re.h.k, .int .i64 re.h.r, .slice v.sea re.h.e.length v.sec, .slice v.ska re.ks.length v.skc, .slice v.ka l v.kc] 31)) := ⟨_, rfl⟩
      have hbx : Box W0 w.heap.size ⟨⟨k, op, pl, nn, nm, ar, ex⟩, rho, rhos, e, ty, re⟩ v l := by rw [hW0]; exact box_of (w := w) (h := ⟨⟨k, op, pl, nn, nm, ar, ex⟩, rho, rhos, e, ty, re⟩) (v := v) (l := l)
      have hb0 : Below w.heap.size w W0 := by rw [hW0]; exact box_new _
      rw [← hW0]
      clear hW0
      generalize hN0 : w.heap.size = N0 at hbx ⊢
      have HBX := Lib.hid hbx; have HB0 := Lib.hid hb0
      obtain ⟨b0, b1, b2, b3, b4, b5, b6, b7, b8, b9, b10, b11, b12, b13, b14, b15, b16, b17, b18⟩ := hbx
      simp only at b0 b1 b2 b3 b4 b5 b6 b7 b8 b9 b10 b11 b12 b13 b14 b15 b16 b17 b18
      clear hb0 hN0
      go_wp2_with (fail)
      go_ret
      exact ⟨ret_i64 HLE.out.symm, HB0.out⟩
set_option maxRecDepth 10000 in
set_option maxHeartbeats 3200000 in
theorem left_walk : ∀ (m : Nat) (t : AT) (h : Hd) (v : V) (l : Nat) (n : Int) (w : World), wt t ≤ m → AtIs w h v l t → 0 ≤ n → n ≤ 400 →
    Calls Tryz.prog 16 #[.agg #[.int .u8 h.h.k, .int .u8 h.h.op, .int .i64 h.h.pl, .int .i64 h.h.n, .string h.h.name, .string h.h.arg, .string h.h.exn, .int .i64 h.rho, .slice v.ra h.rhos.length v.rc, .slice v.ea h.e.length v.ec, .int .u8 h.ty.h.k, .int .i64 h.ty.h.r, .slice v.tea h.ty.h.e.length v.tec, .slice v.tka h.ty.ks.length v.tkc, .int .u8 h.re.h.k, .int .i64 h.re.h.r, .slice v.sea h.re.h.e.length v.sec, .slice v.ska h.re.ks.length v.skc, .slice v.ka l v.kc], .int .i64 n] w fun e w' => e = .returned (.int .i64 (leftT t n)) ∧ Below w.heap.size w w' := by
  intro m
  induction m with
  | zero => intro t h v l n w hm; have := wt_pos t; omega
  | succ m ih =>
    intro t h v l n w hm hT hn0 hn1
    have hle := leftT_eq t n
    rw [hT.head] at hle
    obtain ⟨hlc, hrc, hec, s4, s5, s6⟩ := capA hT
    have hge := fun (W : World) (hb : Below w.heap.size w W) => Effect.great_walk (c := v.ec) (hT.ok.eff.below hb).rd (Nat.le_trans hT.ok.eff.cap.1 hT.ok.eff.cap.2)
    have hgt := fun (W : World) (hb : Below w.heap.size w W) => Rt.great_walk h.ty h.ty.h v.tea h.ty.h.e.length v.tec v.tka h.ty.ks.length v.tkc W (hT.ok.ty.below hb)
    have hgr := fun (W : World) (hb : Below w.heap.size w W) => Rt.great_walk h.re h.re.h v.sea h.re.h.e.length v.sec v.ska h.re.ks.length v.skc W (hT.ok.re.below hb)
    by_cases hl : 100 < h.h.name.size ∨ 100 < h.h.arg.size ∨ 100 < h.h.exn.size ∨ 50 < h.rhos.length
    · exact left_long t h v l n w hT hn0 hn1 hl
    have hlong : longB h = (decide (100 < h.h.name.size ∨ 100 < h.h.arg.size ∨ 100 < h.h.exn.size ∨ 50 < h.rhos.length) || Effect.greatB h.e || Rt.greatT h.ty || Rt.greatT h.re) := rfl
    obtain ⟨⟨k, op, pl, nn, nm, ar, ex⟩, rho, rhos, e, ty, re⟩ := h
    simp only at hle hge hgt hgr hlong hrc hec s4 s5 s6 hl
    have hbox : ∀ O : Obj, Below w.heap.size w (w.alloc O) := fun O => box_new O
    have HBOX := Lib.hid hbox; have IH := Lib.hid ih; have HT := Lib.hid hT; have HM := Lib.hid hm
    have HGE := Lib.hid hge; have HGT := Lib.hid hgt; have HGR := Lib.hid hgr
    clear ih hT hm hbox hge hgt hgr
    have h4 : ¬ 100 < nm.size := by omega
    have h5 : ¬ 100 < ar.size := by omega
    have h6 : ¬ 100 < ex.size := by omega
    have h7 : ¬ 50 < rhos.length := by omega
    have hl0 : decide (100 < nm.size ∨ 100 < ar.size ∨ 100 < ex.size ∨ 50 < rhos.length) = false := decide_eq_false (by omega)
    rw [hl0, Bool.false_or] at hlong
    clear hl0 hl
    go_enter Tryz.func16, Tryz.ntmps16
    go_upto_region 1 with (fail)
    obtain ⟨W0, hW0⟩ : ∃ W0, W0 = (w.alloc (.cells #[.int .u8 k, .int .u8 op, .int .i64 pl, .int .i64 nn, .string nm, .string ar, .string ex, .int .i64 rho, .slice v.ra rhos.length v.rc, .slice v.ea e.length v.ec, .int .u8 ty.h.k, .int .i64 ty.h.r, .slice v.tea ty.h.e.length v.tec, .slice v.tka ty.ks.length v.tkc, .int .u8 re.h.k, .int .i64 re.h.r, .slice v.sea re.h.e.length v.sec, .slice v.ska re.ks.length v.skc, .slice v.ka l v.kc] 31)) := ⟨_, rfl⟩
    have hbx : Box W0 w.heap.size ⟨⟨k, op, pl, nn, nm, ar, ex⟩, rho, rhos, e, ty, re⟩ v l := by rw [hW0]; exact box_of (w := w) (h := ⟨⟨k, op, pl, nn, nm, ar, ex⟩, rho, rhos, e, ty, re⟩) (v := v) (l := l)
    have hb0 : Below w.heap.size w W0 := by rw [hW0]; exact box_new _
    rw [← hW0]
    clear hW0
    generalize hN0 : w.heap.size = N0 at hbx ⊢
    have HBX := Lib.hid hbx; have HB0 := Lib.hid hb0
    obtain ⟨b0, b1, b2, b3, b4, b5, b6, b7, b8, b9, b10, b11, b12, b13, b14, b15, b16, b17, b18⟩ := hbx
    simp only at b0 b1 b2 b3 b4 b5 b6 b7 b8 b9 b10 b11 b12 b13 b14 b15 b16 b17 b18
    clear hb0 hN0
    go_wp2_with (fail)
    refine (HGE.out _ HB0.out).mono ?_
    rintro e1 w1 ⟨rfl, hw1⟩
    have hw1' := hw1.symm
    clear hw1
    subst hw1'
    by_cases h8 : Effect.greatB e = true
    · rw [hlong, h8, Bool.true_or, Bool.true_or, if_pos rfl] at hle
      have HLE := Lib.hid hle; clear hle hlong
      rw [h8]
      clear h8
      go_wp2_with (fail)
      go_ret
      exact ⟨ret_i64 HLE.out.symm, HB0.out⟩
    rw [Bool.not_eq_true] at h8
    rw [h8, Bool.false_or] at hlong
    rw [h8]
    clear h8
    go_wp2_with (fail)
    refine (HGT.out _ HB0.out).mono ?_
    rintro e1 w1 ⟨rfl, hb1⟩
    clear b0 b1 b2 b3 b4 b5 b6 b7 b8 b9 b10 b11 b12 b13 b14 b15 b16 b17 b18
    obtain ⟨b0, b1, b2, b3, b4, b5, b6, b7, b8, b9, b10, b11, b12, b13, b14, b15, b16, b17, b18⟩ := HBX.out.below hb1
    simp only at b0 b1 b2 b3 b4 b5 b6 b7 b8 b9 b10 b11 b12 b13 b14 b15 b16 b17 b18
    have HB1 := Lib.hid hb1; clear hb1
    by_cases h9 : Rt.greatT ty = true
    · rw [hlong, h9, Bool.true_or, if_pos rfl] at hle
      have HLE := Lib.hid hle; clear hle hlong
      rw [h9]
      clear h9
      go_wp2_with (fail)
      go_ret
      exact ⟨ret_i64 HLE.out.symm, below_then HB0.out HB1.out HB0.out.size⟩
    rw [Bool.not_eq_true] at h9
    rw [h9, Bool.false_or] at hlong
    rw [h9]
    clear h9
    go_wp2_with (fail)
    refine (HGR.out _ (below_then HB0.out HB1.out HB0.out.size)).mono ?_
    rintro e2 w2 ⟨rfl, hb2⟩
    have HW0 := Lib.hid (HB1.out.trans (hb2.mono HB1.out.size)); clear hb2
    clear b0 b1 b2 b3 b4 b5 b6 b7 b8 b9 b10 b11 b12 b13 b14 b15 b16 b17 b18
    by_cases h9 : Rt.greatT re = true
    · rw [hlong, h9, if_pos rfl] at hle
      have HLE := Lib.hid hle; clear hle hlong
      rw [h9]
      clear h9
      go_wp2_with (fail)
      go_ret
      exact ⟨ret_i64 HLE.out.symm, below_then HB0.out HW0.out HB0.out.size⟩
    rw [Bool.not_eq_true] at h9
    rw [hlong, h9, if_neg (by simp)] at hle
    have HLE := Lib.hid hle; clear hle hlong
    rw [h9]
    clear h9
    go_wp2_with (fail)
    go_loopw [1, 5] (fun N i wr => ∃ (j : Nat) (M : Int), j ≤ l ∧ i = .int .i64 j ∧ N = .int .i64 M ∧ -1 ≤ M ∧ M ≤ 400 ∧ Hid (leftK t.ks (n - 1) = leftK (t.ks.drop j) M) ∧
      Hid (Below W0.heap.size W0 wr)) (fun _ i _ => l - (intOf i).toNat)
    case atStart => exact ⟨0, n - 1, Nat.zero_le _, rfl, rfl, by omega, by omega, Lib.hid (by rw [List.drop_zero]), HW0⟩
    case round =>
      obtain ⟨j, M, hj, rfl, rfl, hM0, hM1, HLK, HW⟩ := hrel
      obtain ⟨b0, b1, b2, b3, b4, b5, b6, b7, b8, b9, b10, b11, b12, b13, b14, b15, b16, b17, b18⟩ := HBX.out.below HW.out
      simp only at b0 b1 b2 b3 b4 b5 b6 b7 b8 b9 b10 b11 b12 b13 b14 b15 b16 b17 b18
      have HWW := Lib.hid (below_then HB0.out HW.out HB0.out.size)
      by_cases hlt : j < l
      · by_cases hneg : M < 0
        · have hr := HLK.out
          rw [leftK_neg _ _ hneg] at hr
          have HR := Lib.hid hr; clear hr
          go_wp2_with (fail)
          go_ret
          exact ⟨ret_i64 (by rw [HLE.out, HR.out]), HWW.out⟩
        · have hjk : j < t.ks.length := by rw [HT.out.len]; exact hlt
          have hst := HLK.out
          rw [leftK_step _ _ _ hjk hneg] at hst
          obtain ⟨b, o, v', hp, hkid, hrg⟩ := (HT.out.kids.stay HWW.out).load j hjk
          have HRG := Lib.hid hrg
          clear hrg
          rw [hp] at b18
          have hwk := wts_get hjk
          have hwt := wt_ks t
          have hlr1 := (left_range (wt (tget t.ks j))).1 (tget t.ks j) M (Nat.le_refl _) (by omega)
          have HST := Lib.hid hst; have HK := Lib.hid hkid
          have HWK := Lib.hid hwk; have HWT := Lib.hid hwt; have HLR := Lib.hid hlr1
          clear hst hkid hwk hwt hlr1 hjk hp
          go_wp2_with (refine at_load rfl (.tmp 62) rfl b (o + j * 19) rfl HRG.out ?_)
          refine (IH.out (tget t.ks j) _ v' _ M _ (by have := HM.out; have := HWK.out; have := HWT.out; omega) HK.out (by omega) hM1).mono ?_
          rintro e w2 ⟨rfl, hb2⟩
          have HW2 := Lib.hid (HW.out.trans (hb2.mono HW.out.size))
          clear hb2 b0 b1 b2 b3 b4 b5 b6 b7 b8 b9 b10 b11 b12 b13 b14 b15 b16 b17 b18
          have hx0 : -1 ≤ leftT (tget t.ks j) M := HLR.out.1
          have hx1 : leftT (tget t.ks j) M ≤ 400 := by have := HLR.out.2; omega
          generalize hX : leftT (tget t.ks j) M = X at *
          have HX := Lib.hid hX; clear hX
          go_wp2
          go_roundw
          case rel => exact ⟨j + 1, X, by omega, by go_num, rfl, hx0, hx1, HST, HW2⟩
          case measure => simp [intOf]; omega
      · obtain rfl : j = l := by omega
        have hr := HLK.out
        rw [List.drop_eq_nil_of_le (by rw [HT.out.len]; exact Nat.le_refl _), leftK_nil] at hr
        have HR := Lib.hid hr; clear hr
        go_wp2_with (fail)
        go_ret
        exact ⟨ret_i64 (by rw [HLE.out, HR.out]), HWW.out⟩
end Aterm
end Go.Proofs.YtolpdhkgkjnbfaaGreatDoor
namespace Go.Proofs.YtolpdhkgkjnbfaaGreatDoor
open Go.RowKit
set_option linter.unusedVariables false
set_option linter.unusedSimpArgs false
namespace Aterm
open Effect (At AtOk AtsAt Rd RdI ret_i64 ret_bool)
open Rt (box_new box_at below_then)
set_option maxRecDepth 10000 in
theorem great_walk (t : AT) (h : Hd) (v : V) (l : Nat) (w : World) (hT : AtIs w h v l t) :
    Calls Tryz.prog 6 #[.agg #[.int .u8 h.h.k, .int .u8 h.h.op, .int .i64 h.h.pl, .int .i64 h.h.n, .string h.h.name, .string h.h.arg, .string h.h.exn, .int .i64 h.rho, .slice v.ra h.rhos.length v.rc, .slice v.ea h.e.length v.ec, .int .u8 h.ty.h.k, .int .i64 h.ty.h.r, .slice v.tea h.ty.h.e.length v.tec, .slice v.tka h.ty.ks.length v.tkc, .int .u8 h.re.h.k, .int .i64 h.re.h.r, .slice v.sea h.re.h.e.length v.sec, .slice v.ska h.re.ks.length v.skc, .slice v.ka l v.kc]] w fun e w' => e = .returned (.bool (greatT t)) ∧ Below w.heap.size w w' := by
  have HT := Lib.hid hT
  clear hT
  go_enter Tryz.func6, Tryz.ntmps6
  go_upto_region 1 with (fail)
  obtain ⟨W0, hW0⟩ : ∃ W0, W0 = w.alloc (.cells #[.int .u8 h.h.k, .int .u8 h.h.op, .int .i64 h.h.pl, .int .i64 h.h.n, .string h.h.name, .string h.h.arg, .string h.h.exn, .int .i64 h.rho, .slice v.ra h.rhos.length v.rc, .slice v.ea h.e.length v.ec, .int .u8 h.ty.h.k, .int .i64 h.ty.h.r, .slice v.tea h.ty.h.e.length v.tec, .slice v.tka h.ty.ks.length v.tkc, .int .u8 h.re.h.k, .int .i64 h.re.h.r, .slice v.sea h.re.h.e.length v.sec, .slice v.ska h.re.ks.length v.skc, .slice v.ka l v.kc] 31) := ⟨_, rfl⟩
  have hbx : Box W0 w.heap.size h v l := by rw [hW0]; exact box_of (w := w) (h := h) (v := v) (l := l)
  have hb0 : Below w.heap.size w W0 := by rw [hW0]; exact box_new _
  rw [← hW0]
  clear hW0
  generalize hN0 : w.heap.size = N0 at hbx ⊢
  have HB0 := Lib.hid hb0
  have HRG := Lib.hid hbx.range
  clear hb0 hN0 hbx
  go_wp2_with (refine at_load rfl (.tmp 1) rfl N0 0 rfl HRG.out ?_)
  refine (left_walk _ t _ v l 400 _ (Nat.le_refl _) (HT.out.below HB0.out) (by omega) (by omega)).mono ?_
  rintro e w1 ⟨rfl, hb⟩
  have HB := Lib.hid (below_then HB0.out hb HB0.out.size); clear hb
  have hg : greatT t = decide (leftT t 400 < 0) := rfl
  have HG := Lib.hid hg; clear hg
  generalize leftT t 400 = X at *
  go_wp2
  go_ret
  exact ⟨ret_bool HG.out.symm, HB.out⟩
end Aterm
end Go.Proofs.YtolpdhkgkjnbfaaGreatDoor
namespace Go.Proofs.YtolpdhkgkjnbfaaGreatDoor
open Go.RowKit
set_option linter.unusedVariables false
set_option linter.unusedSimpArgs false
namespace Aterm
open Rt (box_new box_at below_then)

/-- Terms by value, one behind the other, their kids in the memory w. -/
def Flat (w : World) : List Value → List AT → Prop
  | xs, [] => xs = []
  | xs, t :: ts => ∃ q ys, xs = acells t.h q t.ks.length ++ ys ∧ AtIs w t.h q t.ks.length t ∧ Flat w ys ts
theorem Flat.append {w : World} : ∀ {ts us : List AT} {xs ys : List Value}, Flat w xs ts → Flat w ys us → Flat w (xs ++ ys) (ts ++ us)
  | [], us, xs, ys, h, k => by
    have : xs = [] := h
    subst this
    exact k
  | t :: ts, us, xs, ys, ⟨q, zs, he, hT, h⟩, k => ⟨q, zs ++ ys, by rw [he, List.append_assoc], hT, h.append k⟩
theorem Flat.len {w : World} : ∀ {ts : List AT} {xs : List Value}, Flat w xs ts → xs.length = ts.length * 19
  | [], xs, h => by
    have : xs = [] := h
    subst this
    rfl
  | t :: ts, xs, ⟨q, zs, he, _, h⟩ => by
    rw [he, List.length_append, h.len, List.length_cons]
    simp [acells]
    omega
theorem Flat.one {w : World} {t : AT} {h : Hd} {q : V} {l : Nat} (hT : AtIs w h q l t) : Flat w (acells h q l) [t] := by
  obtain ⟨h1, h2, h3, h4, h5⟩ := hT
  subst h1 h2
  exact ⟨q, [], by simp, ⟨rfl, rfl, h3, h4, h5⟩, rfl⟩
theorem Flat.get {w : World} : ∀ {ts : List AT} {xs : List Value}, Flat w xs ts → ∀ i, i < ts.length → ∃ q, AtIs w (tget ts i).h q (tget ts i).ks.length (tget ts i) ∧ ∀ j v, (acells (tget ts i).h q (tget ts i).ks.length)[j]? = some v → xs[i * 19 + j]? = some v
  | [], xs, _, i, hi => by simp at hi
  | t :: ts, xs, ⟨q, zs, he, hT, h⟩, 0, _ => by
    refine ⟨q, hT, fun j v hv => ?_⟩
    rw [he, Nat.zero_mul, Nat.zero_add, List.getElem?_append_left ?_]
    · exact hv
    · rcases Nat.lt_or_ge j (acells t.h q t.ks.length).length with h | h
      · exact h
      · rw [List.getElem?_eq_none (by exact h)] at hv; cases hv
  | t :: ts, xs, ⟨q, zs, he, hT, h⟩, i + 1, hi => by
    obtain ⟨q', h1, h2⟩ := h.get i (by simpa using hi)
    refine ⟨q', h1, fun j v hv => ?_⟩
    rw [he, List.getElem?_append_right (by simp [acells]; omega)]
    have e : (i + 1) * 19 + j - (acells t.h q t.ks.length).length = i * 19 + j := by simp [acells]; omega
    rw [e]
    exact h2 j v hv
theorem Flat.stay {w W : World} (hb : Below w.heap.size w W) : ∀ {ts : List AT} {xs : List Value}, Flat w xs ts → Flat W xs ts
  | [], xs, h => h
  | t :: ts, xs, ⟨q, zs, he, hT, h⟩ => ⟨q, zs, he, hT.below hb, h.stay hb⟩
theorem own_below {w W : World} {B e size n : Nat} {v : Value} {xs : List Value} (h : w.ownsRow B e size v n xs) (hb : Below w.heap.size w W) : W.ownsRow B e size v n xs :=
  h.kept (row := none) ⟨hb.os, hb.tape, hb.output, hb.size, fun q hq _ => hb.block q hq⟩ (by cases v.ownBlock <;> simp)
theorem range_below {w W : World} {b o : Nat} {cs : List Value} (h : w.rangeAt b o cs) (hb : Below w.heap.size w W) : W.rangeAt b o cs :=
  fun j v hv => (hb.cell (p := ⟨b, o + j, none⟩) (World.block_lt_of_cell? w _ (h j v hv))).trans (h j v hv)

end Aterm
end Go.Proofs.YtolpdhkgkjnbfaaGreatDoor
namespace Go.Proofs.YtolpdhkgkjnbfaaGreatDoor
open Go.RowKit Go.Sort Go.Shelf Go.Lib
set_option linter.unusedVariables false
set_option linter.unusedSimpArgs false
namespace Effect

set_option maxRecDepth 100000 in
set_option maxHeartbeats 6400000 in
theorem same_walk {n c m d : Nat} {a b : Option Addr} {l k : List At} {w : World} (h : Rd w n a l) (h2 : Rd w m b k) (hn : n ≤ 100000) (hm : m ≤ 100000) : Calls Tryz.prog 26 #[.slice a n c, .slice b m d] w fun e w' => e = .returned (.bool (decide (ofA l = ofA k))) ∧ Below w.heap.size w w' := by
  have H2 := Lib.hid h2; have HC := Lib.hid (ofR (c := c) h hn)
  clear h h2
  go_enter Tryz.func26, Tryz.ntmps26
  go_wp2_with (fail)
  refine HC.out.mono ?_
  rintro e w1 ⟨a1, m1, c1, rfl, hm1, -, hr1, hb1⟩
  have HR1 := Lib.hid hr1
  have HC2 := Lib.hid (ofR (c := d) (H2.out.below hb1) hm)
  have HB := Lib.hid hb1
  clear hr1 hb1
  go_wp2_with (fail)
  refine HC2.out.mono ?_
  rintro e w2 ⟨a2, m2, c2, rfl, hm2, -, hr2, hb2⟩
  have HE := Lib.hid (equalR (c := c1) (d := c2) (HR1.out.below hb2) hr2 (by omega) (by omega))
  have HB2 := Lib.hid (below_then HB.out hb2 HB.out.size)
  clear hr2 hb2
  go_wp2_with (fail)
  refine HE.out.mono ?_
  rintro e w3 ⟨rfl, hb3⟩
  have HB3 := Lib.hid (below_then HB2.out hb3 HB2.out.size)
  clear hb3
  go_wp2_with (fail)
  go_ret
  exact ⟨rfl, HB3.out⟩
end Effect
end Go.Proofs.YtolpdhkgkjnbfaaGreatDoor
namespace Go.Proofs.YtolpdhkgkjnbfaaGreatDoor
open Go.RowKit
set_option linter.unusedVariables false
set_option linter.unusedSimpArgs false
namespace Effect

def withinB (l k : List At) : Bool := l.all fun x => !atomB x || decide (x ∈ k)
set_option maxRecDepth 100000 in
set_option maxHeartbeats 6400000 in
theorem refWithin_walk {n c m d : Nat} {a b : Option Addr} {l k : List At} {w : World} (h : Rd w n a l) (h2 : Rd w m b k) (hn : n ≤ 100000) (hm : m ≤ 100000) : Calls Tryz.prog 23 #[.slice a n c, .slice b m d] w fun e w' => e = .returned (.bool (withinB l k)) ∧ Below w.heap.size w w' := by
  have H := Lib.hid h; have H2 := Lib.hid h2
  clear h h2
  go_enter Tryz.func23, Tryz.ntmps23
  go_wp2_with (fail)
  go_loopw [5, 8] (fun _ i wr => ∃ j : Nat, j ≤ n ∧ i = .int .i64 (j : Int) ∧ Hid (Below w.heap.size w wr) ∧ Hid (withinB (l.take j) k = true)) (fun _ i _ => n - (intOf i).toNat)
  case atStart => exact ⟨0, Nat.zero_le _, rfl, Lib.hid (Below.refl _ _), Lib.hid (by simp [withinB])⟩
  case round =>
    obtain ⟨j, hj, rfl, HS, HA⟩ := hrel
    by_cases hlt : j < n
    · have hjl : j < l.length := by rw [H.out.len]; exact hlt
      obtain ⟨b1, o, rfl, a0, a1, a2⟩ := (H.out.at_.below HS.out).get j hjl
      have hx := H.out.ok _ (aget_mem hjl)
      have htk := at_take l j hjl
      have hmem := aget_mem hjl
      have hlt0 : b1 < wr.heap.size := World.block_lt_of_cell? wr _ a0
      generalize aget l j = x at *
      have HTK := Lib.hid htk; have HMEM := Lib.hid hmem
      have HAT := Lib.hid (refAtom_walk x wr hx)
      have HIN := Lib.hid fun (W : World) (hW : Below wr.heap.size wr W) => in_walk (c := d) ((H2.out.below HS.out).below hW) x hm
      have HC := Lib.hid (And.intro a0 (And.intro a1 a2))
      clear htk hmem hjl hx
      go_wp2_with (fail)
      refine HAT.out.mono ?_
      rintro e w1 ⟨rfl, hb1⟩
      obtain ⟨a0, a1, a2⟩ := HC.out
      have a0 := (hb1.cell (p := ⟨b1, _, none⟩) hlt0).trans a0
      have a1 := (hb1.cell (p := ⟨b1, _, none⟩) hlt0).trans a1
      have a2 := (hb1.cell (p := ⟨b1, _, none⟩) hlt0).trans a2
      have HI := Lib.hid (HIN.out w1 hb1)
      have HB1 := Lib.hid (below_then HS.out hb1 HS.out.size)
      clear hb1
      cases hat : atomB x
      · have HAT2 := Lib.hid hat
        clear hat
        go_wp2_with (fail)
        go_roundw
        case rel => exact ⟨j + 1, by omega, by go_num, HB1, Lib.hid (by rw [HTK.out]; unfold withinB; rw [List.all_append]; have := HA.out; unfold withinB at this; rw [this]; simp [HAT2.out])⟩
        case measure => simp [intOf]; omega
      · have HAT2 := Lib.hid hat
        clear hat
        go_wp2_with (fail)
        refine HI.out.mono ?_
        rintro e w2 ⟨rfl, hb2⟩
        have HB2 := Lib.hid (below_then HB1.out hb2 HB1.out.size)
        clear hb2
        by_cases hin : x ∈ k
        · have HIN2 := Lib.hid hin
          rw [decide_eq_true hin]
          clear hin
          go_wp2_with (fail)
          go_roundw
          case rel => exact ⟨j + 1, by omega, by go_num, HB2, Lib.hid (by rw [HTK.out]; unfold withinB; rw [List.all_append]; have := HA.out; unfold withinB at this; rw [this]; simp [HIN2.out])⟩
          case measure => simp [intOf]; omega
        · have HIN2 := Lib.hid hin
          rw [decide_eq_false hin]
          clear hin
          go_wp2_with (fail)
          go_ret
          refine ⟨ret_bool ?_, HB2.out⟩
          symm
          unfold withinB
          rw [Bool.eq_false_iff]
          intro hall
          have := List.all_eq_true.1 hall x HMEM.out
          rw [HAT2.out, decide_eq_false HIN2.out] at this
          cases this
    · obtain rfl : j = n := by omega
      have hall := HA.out
      rw [List.take_of_length_le (by rw [H.out.len]; exact Nat.le_refl _)] at hall
      have HALL := Lib.hid hall
      clear hall
      go_wp2_with (fail)
      go_ret
      exact ⟨ret_bool HALL.out.symm, HS.out⟩
end Effect
end Go.Proofs.YtolpdhkgkjnbfaaGreatDoor
namespace Go.Proofs.YtolpdhkgkjnbfaaGreatDoor
open Go.RowKit
set_option linter.unusedVariables false
set_option linter.unusedSimpArgs false
namespace Effect

/-! ### Mathematics -/
theorem within_iff (l k : List At) : withinB l k = true ↔ ∀ x ∈ l, atomB x = true → x ∈ k := by
  unfold withinB
  rw [List.all_eq_true]
  constructor
  · intro h x hx ha
    have := h x hx
    rw [ha] at this
    simpa using this
  · intro h x hx
    cases ha : atomB x with
    | false => rfl
    | true => simpa using h x hx ha
theorem same_iff (l k : List At) : decide (ofA l = ofA k) = (withinB l k && withinB k l) := by
  by_cases h : withinB l k = true ∧ withinB k l = true
  · rw [h.1, h.2]
    exact decide_eq_true (of_congr fun b hb => ⟨fun h2 => (within_iff l k).1 h.1 b h2 hb, fun h2 => (within_iff k l).1 h.2 b h2 hb⟩)
  · have e : (withinB l k && withinB k l) = false := by
      rw [Bool.eq_false_iff]
      intro h2
      exact h (Bool.and_eq_true_iff.1 h2)
    rw [e]
    refine decide_eq_false fun he => h ⟨(within_iff l k).2 fun x hx ha => ?_, (within_iff k l).2 fun x hx ha => ?_⟩
    · have : x ∈ ofA k := by rw [← he]; exact (mem_of _ _).2 ⟨hx, ha⟩
      exact ((mem_of _ _).1 this).1
    · have : x ∈ ofA l := by rw [he]; exact (mem_of _ _).2 ⟨hx, ha⟩
      exact ((mem_of _ _).1 this).1
end Effect
end Go.Proofs.YtolpdhkgkjnbfaaGreatDoor
namespace Go.Proofs.YtolpdhkgkjnbfaaGreatDoor
open Go.RowKit
set_option linter.unusedVariables false
set_option linter.unusedSimpArgs false
namespace Rt
open Effect (At AtOk AtsAt Rd ofA ret_i64 ret_bool withinB)

/-- What is asked of Same by the one that goes through kids. -/
def SameOf (f : Nat) (m : Nat) : Prop := ∀ (t u : RT) (h h' : Hd) (pe pe' : Option Addr) (ne ce ne' ce' : Nat) (p p' : Option Addr) (l c l' c' : Nat) (w : World), wt t ≤ m → RtIs w h pe ne ce p l c t → RtIs w h' pe' ne' ce' p' l' c' u → allT (effB 100000) t = true → allT (effB 100000) u = true →
    Calls Tryz.prog f #[.agg #[.int .u8 h.k, .int .i64 h.r, .slice pe ne ce, .slice p l c], .agg #[.int .u8 h'.k, .int .i64 h'.r, .slice pe' ne' ce', .slice p' l' c']] w fun e w' => e = .returned (.bool (sameT t u)) ∧ Below w.heap.size w w'

set_option maxRecDepth 10000 in
set_option maxHeartbeats 6400000 in
theorem equal_walk (m : Nat) (hS : SameOf 27 m) (ts us : List RT) (p p' : Option Addr) (l c l' c' : Nat) (w : World) (hm : wts ts ≤ m) (hl : ts.length = l) (hl' : us.length = l') (hlm : l ≤ maxLen) (hlm' : l' ≤ maxLen) (hk : Kids w p ts) (hk' : Kids w p' us) (hi : allK (effB 100000) ts = true) (hi' : allK (effB 100000) us = true) :
    Calls Tryz.prog 50 #[.slice p l c, .slice p' l' c', .func (.func 27) #[] #[]] w fun e w' => e = .returned (.bool (decide (l = l') && sameK ts us)) ∧ Below w.heap.size w w' := by
  unfold maxLen at hlm hlm'
  have HS := Lib.hid hS; have HM := Lib.hid hm; have HL := Lib.hid hl; have HL' := Lib.hid hl'; have HK := Lib.hid hk; have HK' := Lib.hid hk'; have HI := Lib.hid hi; have HI' := Lib.hid hi'
  clear hS hm hl hl' hk hk' hi hi'
  by_cases hll : l ≠ l'
  · have n1 : ((l : Int) == (l' : Int)) = false := by rw [beq_eq_false_iff_ne]; omega
    have n2 : ((l : Int) != (l' : Int)) = true := by rw [bne, n1]; rfl
    have hd : (decide (l = l') && sameK ts us) = false := by simp [hll]
    have HD := Lib.hid hd
    clear hd hll
    go_enter Tryz.func50, Tryz.ntmps50
    go_wp2_with (fail)
    go_ret
    exact ⟨ret_bool HD.out.symm, Below.refl _ _⟩
  have hll' : l = l' := Classical.not_not.1 hll
  clear hll
  subst hll'
  have hd : (decide (l = l) && sameK ts us) = sameK ts us := by simp
  have HD := Lib.hid hd
  clear hd hlm'
  go_enter Tryz.func50, Tryz.ntmps50
  go_wp2_with (fail)
  go_loopw [7, 8, 9, 17] (fun _ _ _ i wr => ∃ j : Nat, j ≤ l ∧ i = .int .i64 j ∧ Hid (sameK ts us = sameK (ts.drop j) (us.drop j)) ∧ Hid (Below w.heap.size w wr)) (fun _ _ _ i _ => l - (intOf i).toNat)
  case atStart => exact ⟨0, Nat.zero_le _, rfl, Lib.hid (by rw [List.drop_zero, List.drop_zero]), Lib.hid (Below.refl _ _)⟩
  case round =>
    obtain ⟨j, hj, rfl, HSK, HW⟩ := hrel
    by_cases hlt : j < l
    · have hjk : j < ts.length := by rw [HL.out]; exact hlt
      have hjk' : j < us.length := by rw [HL'.out]; exact hlt
      obtain ⟨b, o, q, d, qe, de, rfl, hkid, c0, c1, c2, c3⟩ := (HK.out.stay HW.out).get j hjk
      obtain ⟨b', o', q', d', qe', de', rfl, hkid', e0, e1, e2, e3⟩ := (HK'.out.stay HW.out).get j hjk'
      have hbox : ∀ O O' : Obj, Below wr.heap.size wr ((wr.alloc O).alloc O') := fun O O' => ((Below.refl _ _).alloc (Nat.le_refl _) O).alloc (by simp) O'
      have hwk := wts_get hjk
      have hbl := World.block_lt_of_cell? wr _ e0
      simp only at hbl
      have hik := allK_get _ hjk HI.out
      have hik' := allK_get _ hjk' HI'.out
      have HKI := Lib.hid hkid; have HKI' := Lib.hid hkid'; have HBOX := Lib.hid hbox; have HJ := Lib.hid hjk; have HJ' := Lib.hid hjk'; have HWK := Lib.hid hwk; have HIK := Lib.hid hik; have HIK' := Lib.hid hik'
      clear hkid hkid' hbox hjk hjk' hwk hik hik'
      go_wp2_with (fail)
      refine (HS.out (tget ts j) (tget us j) _ _ qe qe' _ de _ de' q q' _ d _ d' _ (by have := HM.out; have := HWK.out; omega) (HKI.out.below (HBOX.out _ _)) (HKI'.out.below (HBOX.out _ _)) HIK.out HIK'.out).mono ?_
      rintro e w2 ⟨rfl, hb2⟩
      have HW2 := Lib.hid (HW.out.trans ((HBOX.out _ _).mono HW.out.size |>.trans (hb2.mono (Nat.le_trans HW.out.size (HBOX.out _ _).size))))
      clear hb2 hbl c0 c1 c2 c3 e0 e1 e2 e3
      cases hs : sameT (tget ts j) (tget us j)
      · have hno := sameK_no HJ.out HJ'.out hs
        have HNO := Lib.hid hno
        clear hno hs
        go_wp2
        go_ret
        exact ⟨ret_bool (by rw [HD.out, HSK.out, HNO.out]), HW2.out⟩
      · have hgo := sameK_go HJ.out HJ'.out hs
        have HGO := Lib.hid hgo
        clear hgo hs
        go_wp2
        go_roundw
        case rel => exact ⟨j + 1, by omega, by go_num, Lib.hid (HSK.out.trans HGO.out), HW2⟩
        case measure => simp [intOf]; omega
    · obtain rfl : j = l := by omega
      have hr2 := HSK.out
      rw [List.drop_eq_nil_of_le (by rw [HL.out]; exact Nat.le_refl _), sameK_nil] at hr2
      have HR2 := Lib.hid hr2
      clear hr2
      go_wp2
      go_ret
      exact ⟨ret_bool (by rw [HD.out, HR2.out]), HW.out⟩

theorem eff_len {w : World} {h : Hd} {pe : Option Addr} {ne ce : Nat} {p : Option Addr} {l c : Nat} {t : RT} (hT : RtIs w h pe ne ce p l c t) {n : Nat} (hi : allT (effB n) t = true) : ne ≤ n ∧ allK (effB n) t.ks = true := by
  rw [allT_eq, Bool.and_eq_true, hT.head] at hi
  exact ⟨by rw [← hT.elen]; exact (eff_iff.1 hi.1).1, hi.2⟩
set_option maxRecDepth 100000 in
set_option maxHeartbeats 6400000 in
theorem same_walk : ∀ m : Nat, SameOf 27 m := by
  intro m
  induction m with
  | zero => intro t u h h' pe pe' ne ce ne' ce' p p' l c l' c' w hm; have := wt_pos t; omega
  | succ m ih =>
    intro t u h h' pe pe' ne ce ne' ce' p p' l c l' c' w hm hT hU hi hi'
    have hlc : l ≤ maxLen := Nat.le_trans hT.cap.1 hT.cap.2
    have hlc' : l' ≤ maxLen := Nat.le_trans hU.cap.1 hU.cap.2
    have hs0 := sameT_eq t u
    rw [hT.head, hU.head, hT.len, hU.len] at hs0
    have hei := eff_len hT hi
    have hei' := eff_len hU hi'
    obtain ⟨k, v, e⟩ := h
    obtain ⟨k', v', e'⟩ := h'
    have hks : wts t.ks ≤ m := by have := wt_ks t; omega
    have hbox : ∀ O O' : Obj, Below w.heap.size w ((w.alloc O).alloc O') := fun O O' => ((Below.refl _ _).alloc (Nat.le_refl _) O).alloc (by simp) O'
    have hE := fun W (hb : Below w.heap.size w W) => equal_walk m ih t.ks u.ks p p' l c l' c' W hks hT.len hU.len hlc hlc' (hT.kids.stay hb) (hU.kids.stay hb) hei.2 hei'.2
    have hS := fun O O' : Obj => Effect.same_walk (c := ce) (d := ce') (hT.eff.below (hbox O O')).rd (hU.eff.below (hbox O O')).rd hei.1 hei'.1
    have HE := Lib.hid hE; have HBOX := Lib.hid hbox; have HSA := Lib.hid hS
    clear ih hT hU hks hbox hE hm hS hi hi' hei hei'
    simp only at hs0
    by_cases hk : k = k'
    · subst hk
      by_cases hv : v = v'
      · subst hv
        have n1 : (k == k) = true := by simp
        have n3 : (v == v) = true := by simp
        cases hof : decide (ofA e = ofA e')
        · have hs1 : sameT t u = false := by rw [hs0, hof]; simp
          have HS0 := Lib.hid hs1; have HOF := Lib.hid hof
          clear hs0 hs1 hof
          go_enter Tryz.func27, Tryz.ntmps27
          go_wp2_with (fail)
          refine (HSA.out _ _).mono ?_
          rintro e1 w1 ⟨rfl, hb1⟩
          have HB1 := Lib.hid ((HBOX.out _ _).trans (hb1.mono (HBOX.out _ _).size)); clear hb1
          rw [HOF.out]
          go_wp2
          go_ret
          exact ⟨ret_bool HS0.out.symm, HB1.out⟩
        have hs1 : sameT t u = (decide (l = l') && sameK t.ks u.ks) := by rw [hs0, hof]; simp
        have HS0 := Lib.hid hs1; have HOF := Lib.hid hof
        clear hs0 hs1 hof
        go_enter Tryz.func27, Tryz.ntmps27
        go_wp2_with (fail)
        refine (HSA.out _ _).mono ?_
        rintro e1 w1 ⟨rfl, hb1⟩
        have hbb : Below (w.alloc (.cells #[.int .u8 k, .int .i64 v, .slice pe ne ce, .slice p l c] 28)).heap.size (w.alloc (.cells #[.int .u8 k, .int .i64 v, .slice pe ne ce, .slice p l c] 28)) w1 := below_then (box_new _) hb1 (by simp)
        obtain ⟨b0, b1, b2, b3⟩ := box4 (N := w.heap.size) rfl hbb
        obtain ⟨d0, d1, d2, d3⟩ := box4 (N := w.heap.size + 1) (by simp) hb1
        have HB1 := Lib.hid ((HBOX.out _ _).trans (hb1.mono (HBOX.out _ _).size)); clear hb1 hbb
        rw [HOF.out]
        go_wp2_with (fail)
        refine (HE.out _ HB1.out).mono ?_
        rintro e2 w2 ⟨rfl, hb2⟩
        have HB2 := Lib.hid (below_then HB1.out hb2 HB1.out.size); clear hb2
        cases hr : (decide (l = l') && sameK t.ks u.ks)
        all_goals
          have HR := Lib.hid hr
          clear hr
          go_wp2
          go_ret
          exact ⟨ret_bool (by rw [HS0.out, HR.out]), HB2.out⟩
      · have hfalse : sameT t u = false := by rw [hs0]; simp [hv]
        have HF := Lib.hid hfalse
        have n1 : (k == k) = true := by simp
        have n3 : (v == v') = false := by simpa using hv
        clear hs0 hfalse hv
        go_enter Tryz.func27, Tryz.ntmps27
        go_wp2_with (fail)
        go_ret
        exact ⟨ret_bool HF.out.symm, HBOX.out _ _⟩
    · have hfalse : sameT t u = false := by rw [hs0]; simp [hk]
      have HF := Lib.hid hfalse
      have n1 : (k == k') = false := by simpa using hk
      clear hs0 hfalse hk
      go_enter Tryz.func27, Tryz.ntmps27
      go_wp2_with (fail)
      go_ret
      exact ⟨ret_bool HF.out.symm, HBOX.out _ _⟩

/-! ### The document's -/
set_option maxRecDepth 10000 in
set_option maxHeartbeats 12800000 in
theorem refSame_walk : ∀ m : Nat, SameOf 24 m := by
  intro m
  induction m with
  | zero => intro t u h h' pe pe' ne ce ne' ce' p p' l c l' c' w hm; have := wt_pos t; omega
  | succ m ih =>
    intro t u h h' pe pe' ne ce ne' ce' p p' l c l' c' w hm hT hU hi hi'
    have hs0 := sameT_eq t u
    rw [hT.head, hU.head, hT.len, hU.len] at hs0
    have hei := eff_len hT hi
    have hei' := eff_len hU hi'
    have hlc := cap63 hT
    have hlc' := cap63 hU
    obtain ⟨k, v, e⟩ := h
    obtain ⟨k', v', e'⟩ := h'
    have hbox : ∀ O O' : Obj, Below w.heap.size w ((w.alloc O).alloc O') := fun O O' => ((Below.refl _ _).alloc (Nat.le_refl _) O).alloc (by simp) O'
    have hW1 := fun O O' : Obj => Effect.refWithin_walk (c := ce) (d := ce') (hT.eff.below (hbox O O')).rd (hU.eff.below (hbox O O')).rd hei.1 hei'.1
    have hW2 := fun W (hb : Below w.heap.size w W) => Effect.refWithin_walk (c := ce') (d := ce) (hU.eff.below hb).rd (hT.eff.below hb).rd hei'.1 hei.1
    have HBOX := Lib.hid hbox; have HM := Lib.hid hm; have HW1 := Lib.hid hW1; have HW2 := Lib.hid hW2
    clear hm hbox hi hi' hW1 hW2
    simp only at hs0
    by_cases hk : k ≠ k'
    · have hr : sameT t u = false := by rw [hs0]; simp [hk]
      have HR := Lib.hid hr
      have n1 : (k == k') = false := by simpa using hk
      have n2 : (k != k') = true := by simpa using hk
      clear hr hT hU ih hk hs0
      go_enter Tryz.func24, Tryz.ntmps24
      go_wp2_with (fail)
      go_ret
      exact ⟨ret_bool HR.out.symm, HBOX.out _ _⟩
    have hk' : k = k' := Classical.not_not.1 hk
    clear hk
    subst hk'
    by_cases hv : v ≠ v'
    · have hr : sameT t u = false := by rw [hs0]; simp [hv]
      have HR := Lib.hid hr
      have n1 : (v == v') = false := by simpa using hv
      have n2 : (v != v') = true := by simpa using hv
      clear hr hT hU ih hv hs0
      go_enter Tryz.func24, Tryz.ntmps24
      go_wp2_with (fail)
      go_ret
      exact ⟨ret_bool HR.out.symm, HBOX.out _ _⟩
    have hv' : v = v' := Classical.not_not.1 hv
    clear hv
    subst hv'
    by_cases hll : l ≠ l'
    · have hr : sameT t u = false := by rw [hs0]; simp [hll]
      have HR := Lib.hid hr
      have n1 : ((l : Int) == (l' : Int)) = false := by rw [beq_eq_false_iff_ne]; omega
      have n2 : ((l : Int) != (l' : Int)) = true := by rw [bne, n1]; rfl
      clear hr hT hU ih hs0
      go_enter Tryz.func24, Tryz.ntmps24
      go_wp2_with (fail)
      go_ret
      exact ⟨ret_bool HR.out.symm, HBOX.out _ _⟩
    have hll' : l = l' := Classical.not_not.1 hll
    clear hll
    subst hll'
    rw [Effect.same_iff] at hs0
    cases hw1 : withinB e e'
    · have hr : sameT t u = false := by rw [hs0, hw1]; simp
      have HR := Lib.hid hr; have HWB := Lib.hid hw1
      clear hr hT hU ih hs0 hw1
      go_enter Tryz.func24, Tryz.ntmps24
      go_wp2_with (fail)
      refine (HW1.out _ _).mono ?_
      rintro e1 w1 ⟨rfl, hb1⟩
      have HB1 := Lib.hid ((HBOX.out _ _).trans (hb1.mono (HBOX.out _ _).size)); clear hb1
      rw [HWB.out]
      go_wp2_with (fail)
      go_ret
      exact ⟨ret_bool HR.out.symm, HB1.out⟩
    cases hw2 : withinB e' e
    · have hr : sameT t u = false := by rw [hs0, hw1, hw2]; simp
      have HR := Lib.hid hr; have HWB := Lib.hid hw1; have HWC := Lib.hid hw2
      clear hr hT hU ih hs0 hw1 hw2
      go_enter Tryz.func24, Tryz.ntmps24
      go_wp2_with (fail)
      refine (HW1.out _ _).mono ?_
      rintro e1 w1 ⟨rfl, hb1⟩
      have hbb : Below (w.alloc (.cells #[.int .u8 k, .int .i64 v, .slice pe ne ce, .slice p l c] 28)).heap.size (w.alloc (.cells #[.int .u8 k, .int .i64 v, .slice pe ne ce, .slice p l c] 28)) w1 := below_then (box_new _) hb1 (by simp)
      obtain ⟨b0, b1, b2, b3⟩ := box4 (N := w.heap.size) rfl hbb
      obtain ⟨d0, d1, d2, d3⟩ := box4 (N := w.heap.size + 1) (by simp) hb1
      have HB1 := Lib.hid ((HBOX.out _ _).trans (hb1.mono (HBOX.out _ _).size)); clear hb1 hbb
      rw [HWB.out]
      go_wp2_with (fail)
      refine (HW2.out _ HB1.out).mono ?_
      rintro e2 w2 ⟨rfl, hb2⟩
      have HB2 := Lib.hid (below_then HB1.out hb2 HB1.out.size); clear hb2
      rw [HWC.out]
      go_wp2_with (fail)
      go_ret
      exact ⟨ret_bool HR.out.symm, HB2.out⟩
    have hr : sameT t u = sameK t.ks u.ks := by rw [hs0, hw1, hw2]; simp
    have HR := Lib.hid hr; have HT := Lib.hid hT; have HU := Lib.hid hU; have IH := Lib.hid ih; have HWB := Lib.hid hw1; have HWC := Lib.hid hw2; have HEI := Lib.hid (And.intro hei.2 hei'.2)
    clear hr hT hU ih hlc' hs0 hw1 hw2 hei hei'
    go_enter Tryz.func24, Tryz.ntmps24
    go_wp2_with (fail)
    refine (HW1.out _ _).mono ?_
    rintro e1 w1 ⟨rfl, hb1⟩
    have hbb : Below (w.alloc (.cells #[.int .u8 k, .int .i64 v, .slice pe ne ce, .slice p l c] 28)).heap.size (w.alloc (.cells #[.int .u8 k, .int .i64 v, .slice pe ne ce, .slice p l c] 28)) w1 := below_then (box_new _) hb1 (by simp)
    obtain ⟨b0, b1, b2, b3⟩ := box4 (N := w.heap.size) rfl hbb
    obtain ⟨d0, d1, d2, d3⟩ := box4 (N := w.heap.size + 1) (by simp) hb1
    have HB1 := Lib.hid ((HBOX.out _ _).trans (hb1.mono (HBOX.out _ _).size)); have HBA := Lib.hid hb1; clear hb1 hbb
    rw [HWB.out]
    go_wp2_with (fail)
    refine (HW2.out _ HB1.out).mono ?_
    rintro e2 w2 ⟨rfl, hb2⟩
    have hba2 := below_then HBA.out hb2 HBA.out.size
    have hbb : Below (w.alloc (.cells #[.int .u8 k, .int .i64 v, .slice pe ne ce, .slice p l c] 28)).heap.size (w.alloc (.cells #[.int .u8 k, .int .i64 v, .slice pe ne ce, .slice p l c] 28)) w2 := below_then (box_new _) hba2 (by simp)
    have HBA2 := Lib.hid hba2
    clear b0 b1 b2 b3 d0 d1 d2 d3
    obtain ⟨b0, b1, b2, b3⟩ := box4 (N := w.heap.size) rfl hbb
    obtain ⟨d0, d1, d2, d3⟩ := box4 (N := w.heap.size + 1) (by simp) hba2
    clear hb2 hbb hba2
    rw [HWC.out]
    go_wp2_with (fail)
    go_loopw [5, 46] (fun _ i wr => ∃ j : Nat, j ≤ l ∧ i = .int .i64 j ∧ Hid (sameK t.ks u.ks = sameK (t.ks.drop j) (u.ks.drop j)) ∧ Hid (Below ((w.alloc (.cells #[.int .u8 k, .int .i64 v, .slice pe ne ce, .slice p l c] 28)).alloc (.cells #[.int .u8 k, .int .i64 v, .slice pe' ne' ce', .slice p' l c'] 28)).heap.size ((w.alloc (.cells #[.int .u8 k, .int .i64 v, .slice pe ne ce, .slice p l c] 28)).alloc (.cells #[.int .u8 k, .int .i64 v, .slice pe' ne' ce', .slice p' l c'] 28)) wr)) (fun _ i _ => l - (intOf i).toNat)
    case atStart => exact ⟨0, Nat.zero_le _, rfl, Lib.hid (by rw [List.drop_zero, List.drop_zero]), HBA2⟩
    case round =>
      obtain ⟨j, hj, rfl, HSK, HW⟩ := hrel
      have hw1 : Below (w.alloc (.cells #[.int .u8 k, .int .i64 v, .slice pe ne ce, .slice p l c] 28)).heap.size (w.alloc (.cells #[.int .u8 k, .int .i64 v, .slice pe ne ce, .slice p l c] 28)) wr := below_then (box_new _) HW.out (by simp)
      obtain ⟨f0, f1, f2, f3⟩ := box4 (N := w.heap.size) rfl hw1
      obtain ⟨g0, g1, g2, g3⟩ := box4 (N := w.heap.size + 1) (by simp) HW.out
      have HWW := Lib.hid ((HBOX.out _ _).trans (HW.out.mono (by simp; omega : w.heap.size ≤ _)))
      clear hw1
      by_cases hlt : j < l
      · have hjk : j < t.ks.length := by rw [HT.out.len]; exact hlt
        have hjk' : j < u.ks.length := by rw [HU.out.len]; exact hlt
        have hst := HSK.out
        rw [sameK_step _ _ _ hjk hjk'] at hst
        obtain ⟨b, o, q, d, qe, de, rfl, hkid, c0, c1, c2, c3⟩ := (HT.out.kids.stay HWW.out).get j hjk
        obtain ⟨b', o', q', d', qe', de', rfl, hkid', e0, e1, e2, e3⟩ := (HU.out.kids.stay HWW.out).get j hjk'
        have hwk := wts_get hjk
        have hwt := wt_ks t
        have hik := allK_get _ hjk HEI.out.1
        have hik' := allK_get _ hjk' HEI.out.2
        have HST := Lib.hid hst; have HK := Lib.hid hkid; have HK' := Lib.hid hkid'; have HIK := Lib.hid hik; have HIK' := Lib.hid hik'
        have HWK := Lib.hid hwk; have HWT := Lib.hid hwt
        clear hst hkid hkid' hwk hwt hjk hjk' hik hik' b0 b1 b2 b3 d0 d1 d2 d3
        go_wp2_with (fail)
        go_still_tail 10, (by kernel_rfl)
        go_wp2_with (fail)
        refine (IH.out (tget t.ks j) (tget u.ks j) _ _ qe qe' _ de _ de' q q' _ d _ d' _ (by have := HM.out; have := HWK.out; have := HWT.out; omega) (HK.out.below (Below.refl _ _).drew) (HK'.out.below (Below.refl _ _).drew) HIK.out HIK'.out).mono ?_
        rintro e w3 ⟨rfl, hb3⟩
        have HW3 := Lib.hid (HW.out.drew.trans (hb3.mono HW.out.size))
        have HWW3 := Lib.hid (HWW.out.drew.trans (hb3.mono HWW.out.size))
        clear hb3 f0 f1 f2 f3 g0 g1 g2 g3 c0 c1 c2 c3 e0 e1 e2 e3
        cases hs : sameT (tget t.ks j) (tget u.ks j)
        · have hr2 := HST.out
          rw [hs, Bool.false_and] at hr2
          have HR2 := Lib.hid hr2
          clear hr2 hs
          go_wp2
          go_ret
          exact ⟨ret_bool (by rw [HR.out, HR2.out]), HWW3.out⟩
        · have hr2 := HST.out
          rw [hs, Bool.true_and] at hr2
          have HR2 := Lib.hid hr2
          clear hr2 hs
          go_wp2
          go_roundw
          case rel => exact ⟨j + 1, by omega, by go_num, HR2, HW3⟩
          case measure => simp [intOf]; omega
      · obtain rfl : j = l := by omega
        have hr2 := HSK.out
        rw [List.drop_eq_nil_of_le (by rw [HT.out.len]; exact Nat.le_refl _), sameK_nil] at hr2
        have HR2 := Lib.hid hr2
        clear hr2
        go_wp2
        go_ret
        exact ⟨ret_bool (by rw [HR.out, HR2.out]), HWW.out⟩
end Rt
end Go.Proofs.YtolpdhkgkjnbfaaGreatDoor
