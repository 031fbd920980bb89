/-The walks of the document's Great of terms with regions; boxes of such terms. The walk of the document's Great of terms with regions. The walk of the document's row of all nodes of a term with regions. The walks of the document's Own and Binds of terms with regions. The walks of the document's in and plain. Terms: what the walks share. The walks of the document's kids of a kind, and of whether a text fits. The walk of whether a node alone may be, by the document. The walk of the document's row of all nodes. May a term be: mathematics. May a term with regions be: mathematics. -/
import Derived.Test.YtolpdhkgkjnbfaaDoorGC04
import Derived.IntWalk
import Derived.StillTailTactics
import Derived.OwnWalk
import Derived.Laws.AppendOwn
import Derived.Test.YtolpdhkgkjnbfaaDoorGC03
import Derived.Test.YtolpdhkgkjnbfaaDoorGC00
import Derived.LoopTactic
import Derived.Outline
import Derived.Lib.Hide
import Derived.Test.YtolpdhkgkjnbfaaDoorGC01
import Derived.Deep.QuietTactic
import Derived.BigQuiet
import Derived.Deep.Cut
import Derived.Deep.CutRange
import Derived.Deep.RegionHeld3
namespace Go.Proofs.YtolpdhkgkjnbfaaDoor
open Go.RowKit
set_option linter.unusedVariables false
set_option linter.unusedSimpArgs false
namespace Aterm
open Effect (At AtOk AtsAt Rd RdI ret_i64 ret_bool)
open Rt (box_new box_at below_then)

theorem box19 {V W : World} {N : Nat} (hN : N = V.heap.size) {a0 a1 a2 a3 a4 a5 a6 a7 a8 a9 a10 a11 a12 a13 a14 a15 a16 a17 a18 : Value} {ty : TypeId} (hb : Below (V.alloc (.cells #[a0, a1, a2, a3, a4, a5, a6, a7, a8, a9, a10, a11, a12, a13, a14, a15, a16, a17, a18] ty)).heap.size (V.alloc (.cells #[a0, a1, a2, a3, a4, a5, a6, a7, a8, a9, a10, a11, a12, a13, a14, a15, a16, a17, a18] ty)) W) :
    W.cell? ⟨N, 0, none⟩ = some a0 ∧ W.cell? ⟨N, 1, none⟩ = some a1 ∧ W.cell? ⟨N, 2, none⟩ = some a2 ∧ W.cell? ⟨N, 3, none⟩ = some a3 ∧ W.cell? ⟨N, 4, none⟩ = some a4 ∧ W.cell? ⟨N, 5, none⟩ = some a5 ∧ W.cell? ⟨N, 6, none⟩ = some a6 ∧ W.cell? ⟨N, 7, none⟩ = some a7 ∧ W.cell? ⟨N, 8, none⟩ = some a8 ∧ W.cell? ⟨N, 9, none⟩ = some a9 ∧ W.cell? ⟨N, 10, none⟩ = some a10 ∧ W.cell? ⟨N, 11, none⟩ = some a11 ∧ W.cell? ⟨N, 12, none⟩ = some a12 ∧ W.cell? ⟨N, 13, none⟩ = some a13 ∧ W.cell? ⟨N, 14, none⟩ = some a14 ∧ W.cell? ⟨N, 15, none⟩ = some a15 ∧ W.cell? ⟨N, 16, none⟩ = some a16 ∧ W.cell? ⟨N, 17, none⟩ = some a17 ∧ W.cell? ⟨N, 18, none⟩ = some a18 := by
  subst hN
  exact ⟨box_at hb 0 rfl, box_at hb 1 rfl, box_at hb 2 rfl, box_at hb 3 rfl, box_at hb 4 rfl, box_at hb 5 rfl, box_at hb 6 rfl, box_at hb 7 rfl, box_at hb 8 rfl, box_at hb 9 rfl, box_at hb 10 rfl, box_at hb 11 rfl, box_at hb 12 rfl, box_at hb 13 rfl, box_at hb 14 rfl, box_at hb 15 rfl, box_at hb 16 rfl, box_at hb 17 rfl, box_at hb 18 rfl⟩
/-- A box of a term with regions. -/
def Box (w : World) (N : Nat) (h : Hd) (v : V) (l : Nat) : Prop := w.cell? ⟨N, 0, none⟩ = some (.int .u8 h.h.k) ∧ w.cell? ⟨N, 1, none⟩ = some (.int .u8 h.h.op) ∧ w.cell? ⟨N, 2, none⟩ = some (.int .i64 h.h.pl) ∧ w.cell? ⟨N, 3, none⟩ = some (.int .i64 h.h.n) ∧ w.cell? ⟨N, 4, none⟩ = some (.string h.h.name) ∧ w.cell? ⟨N, 5, none⟩ = some (.string h.h.arg) ∧ w.cell? ⟨N, 6, none⟩ = some (.string h.h.exn) ∧ w.cell? ⟨N, 7, none⟩ = some (.int .i64 h.rho) ∧ w.cell? ⟨N, 8, none⟩ = some (.slice v.ra h.rhos.length v.rc) ∧ w.cell? ⟨N, 9, none⟩ = some (.slice v.ea h.e.length v.ec) ∧ w.cell? ⟨N, 10, none⟩ = some (.int .u8 h.ty.h.k) ∧ w.cell? ⟨N, 11, none⟩ = some (.int .i64 h.ty.h.r) ∧ w.cell? ⟨N, 12, none⟩ = some (.slice v.tea h.ty.h.e.length v.tec) ∧ w.cell? ⟨N, 13, none⟩ = some (.slice v.tka h.ty.ks.length v.tkc) ∧ w.cell? ⟨N, 14, none⟩ = some (.int .u8 h.re.h.k) ∧ w.cell? ⟨N, 15, none⟩ = some (.int .i64 h.re.h.r) ∧ w.cell? ⟨N, 16, none⟩ = some (.slice v.sea h.re.h.e.length v.sec) ∧ w.cell? ⟨N, 17, none⟩ = some (.slice v.ska h.re.ks.length v.skc) ∧ w.cell? ⟨N, 18, none⟩ = some (.slice v.ka l v.kc)
theorem box_of {w : World} {h : Hd} {v : V} {l : Nat} {ty : TypeId} : Box (w.alloc (.cells #[.int .u8 h.h.k, .int .u8 h.h.op, .int .i64 h.h.pl, .int .i64 h.h.n, .string h.h.name, .string h.h.arg, .string h.h.exn, .int .i64 h.rho, .slice v.ra h.rhos.length v.rc, .slice v.ea h.e.length v.ec, .int .u8 h.ty.h.k, .int .i64 h.ty.h.r, .slice v.tea h.ty.h.e.length v.tec, .slice v.tka h.ty.ks.length v.tkc, .int .u8 h.re.h.k, .int .i64 h.re.h.r, .slice v.sea h.re.h.e.length v.sec, .slice v.ska h.re.ks.length v.skc, .slice v.ka l v.kc] ty)) w.heap.size h v l := box19 (V := w) rfl (Below.refl _ _)
theorem Box.below {w W : World} {N : Nat} {h : Hd} {v : V} {l : Nat} (k : Box w N h v l) (hb : Below w.heap.size w W) : Box W N h v l := by
  obtain ⟨b0, b1, b2, b3, b4, b5, b6, b7, b8, b9, b10, b11, b12, b13, b14, b15, b16, b17, b18⟩ := k
  have hlt : N < w.heap.size := World.block_lt_of_cell? w _ b0
  exact ⟨(hb.cell (p := ⟨N, 0, none⟩) hlt).trans b0, (hb.cell (p := ⟨N, 1, none⟩) hlt).trans b1, (hb.cell (p := ⟨N, 2, none⟩) hlt).trans b2, (hb.cell (p := ⟨N, 3, none⟩) hlt).trans b3, (hb.cell (p := ⟨N, 4, none⟩) hlt).trans b4, (hb.cell (p := ⟨N, 5, none⟩) hlt).trans b5, (hb.cell (p := ⟨N, 6, none⟩) hlt).trans b6, (hb.cell (p := ⟨N, 7, none⟩) hlt).trans b7, (hb.cell (p := ⟨N, 8, none⟩) hlt).trans b8, (hb.cell (p := ⟨N, 9, none⟩) hlt).trans b9, (hb.cell (p := ⟨N, 10, none⟩) hlt).trans b10, (hb.cell (p := ⟨N, 11, none⟩) hlt).trans b11, (hb.cell (p := ⟨N, 12, none⟩) hlt).trans b12, (hb.cell (p := ⟨N, 13, none⟩) hlt).trans b13, (hb.cell (p := ⟨N, 14, none⟩) hlt).trans b14, (hb.cell (p := ⟨N, 15, none⟩) hlt).trans b15, (hb.cell (p := ⟨N, 16, none⟩) hlt).trans b16, (hb.cell (p := ⟨N, 17, none⟩) hlt).trans b17, (hb.cell (p := ⟨N, 18, none⟩) hlt).trans b18⟩
theorem Box.range {w : World} {N : Nat} {h : Hd} {v : V} {l : Nat} (k : Box w N h v l) : w.rangeAt N 0 (acells h v l) := by
  obtain ⟨b0, b1, b2, b3, b4, b5, b6, b7, b8, b9, b10, b11, b12, b13, b14, b15, b16, b17, b18⟩ := k
  intro j x hx
  match j, hx with
  | 0, hx => cases hx; exact b0
  | 1, hx => cases hx; exact b1
  | 2, hx => cases hx; exact b2
  | 3, hx => cases hx; exact b3
  | 4, hx => cases hx; exact b4
  | 5, hx => cases hx; exact b5
  | 6, hx => cases hx; exact b6
  | 7, hx => cases hx; exact b7
  | 8, hx => cases hx; exact b8
  | 9, hx => cases hx; exact b9
  | 10, hx => cases hx; exact b10
  | 11, hx => cases hx; exact b11
  | 12, hx => cases hx; exact b12
  | 13, hx => cases hx; exact b13
  | 14, hx => cases hx; exact b14
  | 15, hx => cases hx; exact b15
  | 16, hx => cases hx; exact b16
  | 17, hx => cases hx; exact b17
  | 18, hx => cases hx; exact b18
  | _ + 19, hx => simp [acells] at hx
theorem capA {w : World} {h : Hd} {v : V} {l : Nat} {t : AT} (hT : AtIs w h v l t) : l ≤ 9223372036854775807 ∧ h.rhos.length ≤ 9223372036854775807 ∧ h.e.length ≤ 9223372036854775807 ∧ h.h.name.size ≤ 9223372036854775807 ∧ h.h.arg.size ≤ 9223372036854775807 ∧ h.h.exn.size ≤ 9223372036854775807 := by
  have h1 := hT.cap
  have h2 := hT.ok.rcap
  have h3 := hT.ok.eff.cap
  have h4 := hT.ok.hd.name
  have h5 := hT.ok.hd.arg
  have h6 := hT.ok.hd.exn
  unfold maxLen at h1 h2 h3 h4 h5 h6
  omega

set_option maxRecDepth 10000 in
set_option maxHeartbeats 3200000 in
theorem left_long (t : AT) (h : Hd) (v : V) (l : Nat) (n : Int) (w : World) (hT : AtIs w h v l t) (hn0 : 0 ≤ n) (hn1 : n ≤ 400) (hl : 100 < h.h.name.size ∨ 100 < h.h.arg.size ∨ 100 < h.h.exn.size ∨ 50 < h.rhos.length) :
    Calls Tryd.prog 20 #[.agg #[.int .u8 h.h.k, .int .u8 h.h.op, .int .i64 h.h.pl, .int .i64 h.h.n, .string h.h.name, .string h.h.arg, .string h.h.exn, .int .i64 h.rho, .slice v.ra h.rhos.length v.rc, .slice v.ea h.e.length v.ec, .int .u8 h.ty.h.k, .int .i64 h.ty.h.r, .slice v.tea h.ty.h.e.length v.tec, .slice v.tka h.ty.ks.length v.tkc, .int .u8 h.re.h.k, .int .i64 h.re.h.r, .slice v.sea h.re.h.e.length v.sec, .slice v.ska h.re.ks.length v.skc, .slice v.ka l v.kc], .int .i64 n] w fun e w' => e = .returned (.int .i64 (leftT t n)) ∧ Below w.heap.size w w' := by
    have hle := leftT_eq t n
    rw [hT.head, show longB h = true from by unfold longB; simp [hl], if_pos rfl] at hle
    obtain ⟨hlc, hrc, hec, s4, s5, s6⟩ := capA hT
    obtain ⟨⟨k, op, pl, nn, nm, ar, ex⟩, rho, rhos, e, ty, re⟩ := h
    simp only at hl hrc hec s4 s5 s6
    have HLE := Lib.hid hle; clear hle
    clear hT
    by_cases h4 : 100 < nm.size
    · clear hl
      go_enter Tryd.func20, Tryd.ntmps20
      go_upto_region 1 with (fail)
      obtain ⟨W0, hW0⟩ : ∃ W0, W0 = (w.alloc (.cells #[.int .u8 k, .int .u8 op, .int .i64 pl, .int .i64 nn, .string nm, .string ar, .string ex, .int .i64 rho, .slice v.ra rhos.length v.rc, .slice v.ea e.length v.ec, .int .u8 ty.h.k, .int .i64 ty.h.r, .slice v.tea ty.h.e.length v.tec, .slice v.tka ty.ks.length v.tkc, .int .u8 re.h.k, .int .i64 re.h.r, .slice v.sea re.h.e.length v.sec, .slice v.ska re.ks.length v.skc, .slice v.ka l v.kc] 33)) := ⟨_, rfl⟩
      have hbx : Box W0 w.heap.size ⟨⟨k, op, pl, nn, nm, ar, ex⟩, rho, rhos, e, ty, re⟩ v l := by rw [hW0]; exact box_of (w := w) (h := ⟨⟨k, op, pl, nn, nm, ar, ex⟩, rho, rhos, e, ty, re⟩) (v := v) (l := l)
      have hb0 : Below w.heap.size w W0 := by rw [hW0]; exact box_new _
      rw [← hW0]
      clear hW0
      generalize hN0 : w.heap.size = N0 at hbx ⊢
      have HBX := Lib.hid hbx; have HB0 := Lib.hid hb0
      obtain ⟨b0, b1, b2, b3, b4, b5, b6, b7, b8, b9, b10, b11, b12, b13, b14, b15, b16, b17, b18⟩ := hbx
      simp only at b0 b1 b2 b3 b4 b5 b6 b7 b8 b9 b10 b11 b12 b13 b14 b15 b16 b17 b18
      clear hb0 hN0
      go_wp2_with (fail)
      go_ret
      exact ⟨ret_i64 HLE.out.symm, HB0.out⟩
    by_cases h5 : 100 < ar.size
    · clear hl
      go_enter Tryd.func20, Tryd.ntmps20
      go_upto_region 1 with (fail)
      obtain ⟨W0, hW0⟩ : ∃ W0, W0 = (w.alloc (.cells #[.int .u8 k, .int .u8 op, .int .i64 pl, .int .i64 nn, .string nm, .string ar, .string ex, .int .i64 rho, .slice v.ra rhos.length v.rc, .slice v.ea e.length v.ec, .int .u8 ty.h.k, .int .i64 ty.h.r, .slice v.tea ty.h.e.length v.tec, .slice v.tka ty.ks.length v.tkc, .int .u8 re.h.k, .int .i64 re.h.r, .slice v.sea re.h.e.length v.sec, .slice v.ska re.ks.length v.skc, .slice v.ka l v.kc] 33)) := ⟨_, rfl⟩
      have hbx : Box W0 w.heap.size ⟨⟨k, op, pl, nn, nm, ar, ex⟩, rho, rhos, e, ty, re⟩ v l := by rw [hW0]; exact box_of (w := w) (h := ⟨⟨k, op, pl, nn, nm, ar, ex⟩, rho, rhos, e, ty, re⟩) (v := v) (l := l)
      have hb0 : Below w.heap.size w W0 := by rw [hW0]; exact box_new _
      rw [← hW0]
      clear hW0
      generalize hN0 : w.heap.size = N0 at hbx ⊢
      have HBX := Lib.hid hbx; have HB0 := Lib.hid hb0
      obtain ⟨b0, b1, b2, b3, b4, b5, b6, b7, b8, b9, b10, b11, b12, b13, b14, b15, b16, b17, b18⟩ := hbx
      simp only at b0 b1 b2 b3 b4 b5 b6 b7 b8 b9 b10 b11 b12 b13 b14 b15 b16 b17 b18
      clear hb0 hN0
      go_wp2_with (fail)
      go_ret
      exact ⟨ret_i64 HLE.out.symm, HB0.out⟩
    by_cases h6 : 100 < ex.size
    · clear hl
      go_enter Tryd.func20, Tryd.ntmps20
      go_upto_region 1 with (fail)
      obtain ⟨W0, hW0⟩ : ∃ W0, W0 = (w.alloc (.cells #[.int .u8 k, .int .u8 op, .int .i64 pl, .int .i64 nn, .string nm, .string ar, .string ex, .int .i64 rho, .slice v.ra rhos.length v.rc, .slice v.ea e.length v.ec, .int .u8 ty.h.k, .int .i64 ty.h.r, .slice v.tea ty.h.e.length v.tec, .slice v.tka ty.ks.length v.tkc, .int .u8 re.h.k, .int .i64 re.h.r, .slice v.sea re.h.e.length v.sec, .slice v.ska re.ks.length v.skc, .slice v.ka l v.kc] 33)) := ⟨_, rfl⟩
      have hbx : Box W0 w.heap.size ⟨⟨k, op, pl, nn, nm, ar, ex⟩, rho, rhos, e, ty, re⟩ v l := by rw [hW0]; exact box_of (w := w) (h := ⟨⟨k, op, pl, nn, nm, ar, ex⟩, rho, rhos, e, ty, re⟩) (v := v) (l := l)
      have hb0 : Below w.heap.size w W0 := by rw [hW0]; exact box_new _
      rw [← hW0]
      clear hW0
      generalize hN0 : w.heap.size = N0 at hbx ⊢
      have HBX := Lib.hid hbx; have HB0 := Lib.hid hb0
      obtain ⟨b0, b1, b2, b3, b4, b5, b6, b7, b8, b9, b10, b11, b12, b13, b14, b15, b16, b17, b18⟩ := hbx
      simp only at b0 b1 b2 b3 b4 b5 b6 b7 b8 b9 b10 b11 b12 b13 b14 b15 b16 b17 b18
      clear hb0 hN0
      go_wp2_with (fail)
      go_ret
      exact ⟨ret_i64 HLE.out.symm, HB0.out⟩
    · have h7 : 50 < rhos.length := by omega
      clear hl
      go_enter Tryd.func20, Tryd.ntmps20
      go_upto_region 1 with (fail)
      obtain ⟨W0, hW0⟩ : ∃ W0, W0 = (w.alloc (.cells #[.int .u8 k, .int .u8 op, .int .i64 pl, .int .i64 nn, .string nm, .string ar, .string ex, .int .i64 rho, .slice v.ra rhos.length v.rc, .slice v.ea e.length v.ec, .int .u8 ty.h.k, .int .i64 ty.h.r, .slice v.tea ty.h.e.length v.tec, .slice v.tka ty.ks.length v.tkc, .int .u8 re.h.k, .int .i64 re.h.r, .slice v.sea re.h.e.length v.sec, .slice v.ska re.ks.length v.skc, .slice v.ka l v.kc] 33)) := ⟨_, rfl⟩
      have hbx : Box W0 w.heap.size ⟨⟨k, op, pl, nn, nm, ar, ex⟩, rho, rhos, e, ty, re⟩ v l := by rw [hW0]; exact box_of (w := w) (h := ⟨⟨k, op, pl, nn, nm, ar, ex⟩, rho, rhos, e, ty, re⟩) (v := v) (l := l)
      have hb0 : Below w.heap.size w W0 := by rw [hW0]; exact box_new _
      rw [← hW0]
      clear hW0
      generalize hN0 : w.heap.size = N0 at hbx ⊢
      have HBX := Lib.hid hbx; have HB0 := Lib.hid hb0
      obtain ⟨b0, b1, b2, b3, b4, b5, b6, b7, b8, b9, b10, b11, b12, b13, b14, b15, b16, b17, b18⟩ := hbx
      simp only at b0 b1 b2 b3 b4 b5 b6 b7 b8 b9 b10 b11 b12 b13 b14 b15 b16 b17 b18
      clear hb0 hN0
      go_wp2_with (fail)
      go_ret
      exact ⟨ret_i64 HLE.out.symm, HB0.out⟩
set_option maxRecDepth 10000 in
set_option maxHeartbeats 3200000 in
theorem left_walk : ∀ (m : Nat) (t : AT) (h : Hd) (v : V) (l : Nat) (n : Int) (w : World), wt t ≤ m → AtIs w h v l t → 0 ≤ n → n ≤ 400 →
    Calls Tryd.prog 20 #[.agg #[.int .u8 h.h.k, .int .u8 h.h.op, .int .i64 h.h.pl, .int .i64 h.h.n, .string h.h.name, .string h.h.arg, .string h.h.exn, .int .i64 h.rho, .slice v.ra h.rhos.length v.rc, .slice v.ea h.e.length v.ec, .int .u8 h.ty.h.k, .int .i64 h.ty.h.r, .slice v.tea h.ty.h.e.length v.tec, .slice v.tka h.ty.ks.length v.tkc, .int .u8 h.re.h.k, .int .i64 h.re.h.r, .slice v.sea h.re.h.e.length v.sec, .slice v.ska h.re.ks.length v.skc, .slice v.ka l v.kc], .int .i64 n] w fun e w' => e = .returned (.int .i64 (leftT t n)) ∧ Below w.heap.size w w' := by
  intro m
  induction m with
  | zero => intro t h v l n w hm; have := wt_pos t; omega
  | succ m ih =>
    intro t h v l n w hm hT hn0 hn1
    have hle := leftT_eq t n
    rw [hT.head] at hle
    obtain ⟨hlc, hrc, hec, s4, s5, s6⟩ := capA hT
    have hge := fun (W : World) (hb : Below w.heap.size w W) => Effect.great_walk (c := v.ec) (hT.ok.eff.below hb).rd (Nat.le_trans hT.ok.eff.cap.1 hT.ok.eff.cap.2)
    have hgt := fun (W : World) (hb : Below w.heap.size w W) => Rt.great_walk h.ty h.ty.h v.tea h.ty.h.e.length v.tec v.tka h.ty.ks.length v.tkc W (hT.ok.ty.below hb)
    have hgr := fun (W : World) (hb : Below w.heap.size w W) => Rt.great_walk h.re h.re.h v.sea h.re.h.e.length v.sec v.ska h.re.ks.length v.skc W (hT.ok.re.below hb)
    by_cases hl : 100 < h.h.name.size ∨ 100 < h.h.arg.size ∨ 100 < h.h.exn.size ∨ 50 < h.rhos.length
    · exact left_long t h v l n w hT hn0 hn1 hl
    have hlong : longB h = (decide (100 < h.h.name.size ∨ 100 < h.h.arg.size ∨ 100 < h.h.exn.size ∨ 50 < h.rhos.length) || Effect.greatB h.e || Rt.greatT h.ty || Rt.greatT h.re) := rfl
    obtain ⟨⟨k, op, pl, nn, nm, ar, ex⟩, rho, rhos, e, ty, re⟩ := h
    simp only at hle hge hgt hgr hlong hrc hec s4 s5 s6 hl
    have hbox : ∀ O : Obj, Below w.heap.size w (w.alloc O) := fun O => box_new O
    have HBOX := Lib.hid hbox; have IH := Lib.hid ih; have HT := Lib.hid hT; have HM := Lib.hid hm
    have HGE := Lib.hid hge; have HGT := Lib.hid hgt; have HGR := Lib.hid hgr
    clear ih hT hm hbox hge hgt hgr
    have h4 : ¬ 100 < nm.size := by omega
    have h5 : ¬ 100 < ar.size := by omega
    have h6 : ¬ 100 < ex.size := by omega
    have h7 : ¬ 50 < rhos.length := by omega
    have hl0 : decide (100 < nm.size ∨ 100 < ar.size ∨ 100 < ex.size ∨ 50 < rhos.length) = false := decide_eq_false (by omega)
    rw [hl0, Bool.false_or] at hlong
    clear hl0 hl
    go_enter Tryd.func20, Tryd.ntmps20
    go_upto_region 1 with (fail)
    obtain ⟨W0, hW0⟩ : ∃ W0, W0 = (w.alloc (.cells #[.int .u8 k, .int .u8 op, .int .i64 pl, .int .i64 nn, .string nm, .string ar, .string ex, .int .i64 rho, .slice v.ra rhos.length v.rc, .slice v.ea e.length v.ec, .int .u8 ty.h.k, .int .i64 ty.h.r, .slice v.tea ty.h.e.length v.tec, .slice v.tka ty.ks.length v.tkc, .int .u8 re.h.k, .int .i64 re.h.r, .slice v.sea re.h.e.length v.sec, .slice v.ska re.ks.length v.skc, .slice v.ka l v.kc] 33)) := ⟨_, rfl⟩
    have hbx : Box W0 w.heap.size ⟨⟨k, op, pl, nn, nm, ar, ex⟩, rho, rhos, e, ty, re⟩ v l := by rw [hW0]; exact box_of (w := w) (h := ⟨⟨k, op, pl, nn, nm, ar, ex⟩, rho, rhos, e, ty, re⟩) (v := v) (l := l)
    have hb0 : Below w.heap.size w W0 := by rw [hW0]; exact box_new _
    rw [← hW0]
    clear hW0
    generalize hN0 : w.heap.size = N0 at hbx ⊢
    have HBX := Lib.hid hbx; have HB0 := Lib.hid hb0
    obtain ⟨b0, b1, b2, b3, b4, b5, b6, b7, b8, b9, b10, b11, b12, b13, b14, b15, b16, b17, b18⟩ := hbx
    simp only at b0 b1 b2 b3 b4 b5 b6 b7 b8 b9 b10 b11 b12 b13 b14 b15 b16 b17 b18
    clear hb0 hN0
    go_wp2_with (fail)
    refine (HGE.out _ HB0.out).mono ?_
    rintro e1 w1 ⟨rfl, hw1⟩
    have hw1' := hw1.symm
    clear hw1
    subst hw1'
    by_cases h8 : Effect.greatB e = true
    · rw [hlong, h8, Bool.true_or, Bool.true_or, if_pos rfl] at hle
      have HLE := Lib.hid hle; clear hle hlong
      rw [h8]
      clear h8
      go_wp2_with (fail)
      go_ret
      exact ⟨ret_i64 HLE.out.symm, HB0.out⟩
    rw [Bool.not_eq_true] at h8
    rw [h8, Bool.false_or] at hlong
    rw [h8]
    clear h8
    go_wp2_with (fail)
    refine (HGT.out _ HB0.out).mono ?_
    rintro e1 w1 ⟨rfl, hb1⟩
    clear b0 b1 b2 b3 b4 b5 b6 b7 b8 b9 b10 b11 b12 b13 b14 b15 b16 b17 b18
    obtain ⟨b0, b1, b2, b3, b4, b5, b6, b7, b8, b9, b10, b11, b12, b13, b14, b15, b16, b17, b18⟩ := HBX.out.below hb1
    simp only at b0 b1 b2 b3 b4 b5 b6 b7 b8 b9 b10 b11 b12 b13 b14 b15 b16 b17 b18
    have HB1 := Lib.hid hb1; clear hb1
    by_cases h9 : Rt.greatT ty = true
    · rw [hlong, h9, Bool.true_or, if_pos rfl] at hle
      have HLE := Lib.hid hle; clear hle hlong
      rw [h9]
      clear h9
      go_wp2_with (fail)
      go_ret
      exact ⟨ret_i64 HLE.out.symm, below_then HB0.out HB1.out HB0.out.size⟩
    rw [Bool.not_eq_true] at h9
    rw [h9, Bool.false_or] at hlong
    rw [h9]
    clear h9
    go_wp2_with (fail)
    refine (HGR.out _ (below_then HB0.out HB1.out HB0.out.size)).mono ?_
    rintro e2 w2 ⟨rfl, hb2⟩
    have HW0 := Lib.hid (HB1.out.trans (hb2.mono HB1.out.size)); clear hb2
    clear b0 b1 b2 b3 b4 b5 b6 b7 b8 b9 b10 b11 b12 b13 b14 b15 b16 b17 b18
    by_cases h9 : Rt.greatT re = true
    · rw [hlong, h9, if_pos rfl] at hle
      have HLE := Lib.hid hle; clear hle hlong
      rw [h9]
      clear h9
      go_wp2_with (fail)
      go_ret
      exact ⟨ret_i64 HLE.out.symm, below_then HB0.out HW0.out HB0.out.size⟩
    rw [Bool.not_eq_true] at h9
    rw [hlong, h9, if_neg (by simp)] at hle
    have HLE := Lib.hid hle; clear hle hlong
    rw [h9]
    clear h9
    go_wp2_with (fail)
    go_loopw [1, 5] (fun N i wr => ∃ (j : Nat) (M : Int), j ≤ l ∧ i = .int .i64 j ∧ N = .int .i64 M ∧ -1 ≤ M ∧ M ≤ 400 ∧ Hid (leftK t.ks (n - 1) = leftK (t.ks.drop j) M) ∧
      Hid (Below W0.heap.size W0 wr)) (fun _ i _ => l - (intOf i).toNat)
    case atStart => exact ⟨0, n - 1, Nat.zero_le _, rfl, rfl, by omega, by omega, Lib.hid (by rw [List.drop_zero]), HW0⟩
    case round =>
      obtain ⟨j, M, hj, rfl, rfl, hM0, hM1, HLK, HW⟩ := hrel
      obtain ⟨b0, b1, b2, b3, b4, b5, b6, b7, b8, b9, b10, b11, b12, b13, b14, b15, b16, b17, b18⟩ := HBX.out.below HW.out
      simp only at b0 b1 b2 b3 b4 b5 b6 b7 b8 b9 b10 b11 b12 b13 b14 b15 b16 b17 b18
      have HWW := Lib.hid (below_then HB0.out HW.out HB0.out.size)
      by_cases hlt : j < l
      · by_cases hneg : M < 0
        · have hr := HLK.out
          rw [leftK_neg _ _ hneg] at hr
          have HR := Lib.hid hr; clear hr
          go_wp2_with (fail)
          go_ret
          exact ⟨ret_i64 (by rw [HLE.out, HR.out]), HWW.out⟩
        · have hjk : j < t.ks.length := by rw [HT.out.len]; exact hlt
          have hst := HLK.out
          rw [leftK_step _ _ _ hjk hneg] at hst
          obtain ⟨b, o, v', hp, hkid, hrg⟩ := (HT.out.kids.stay HWW.out).load j hjk
          have HRG := Lib.hid hrg
          clear hrg
          rw [hp] at b18
          have hwk := wts_get hjk
          have hwt := wt_ks t
          have hlr1 := (left_range (wt (tget t.ks j))).1 (tget t.ks j) M (Nat.le_refl _) (by omega)
          have HST := Lib.hid hst; have HK := Lib.hid hkid
          have HWK := Lib.hid hwk; have HWT := Lib.hid hwt; have HLR := Lib.hid hlr1
          clear hst hkid hwk hwt hlr1 hjk hp
          go_wp2_with (refine at_load rfl (.tmp 62) rfl b (o + j * 19) rfl HRG.out ?_)
          refine (IH.out (tget t.ks j) _ v' _ M _ (by have := HM.out; have := HWK.out; have := HWT.out; omega) HK.out (by omega) hM1).mono ?_
          rintro e w2 ⟨rfl, hb2⟩
          have HW2 := Lib.hid (HW.out.trans (hb2.mono HW.out.size))
          clear hb2 b0 b1 b2 b3 b4 b5 b6 b7 b8 b9 b10 b11 b12 b13 b14 b15 b16 b17 b18
          have hx0 : -1 ≤ leftT (tget t.ks j) M := HLR.out.1
          have hx1 : leftT (tget t.ks j) M ≤ 400 := by have := HLR.out.2; omega
          generalize hX : leftT (tget t.ks j) M = X at *
          have HX := Lib.hid hX; clear hX
          go_wp2
          go_roundw
          case rel => exact ⟨j + 1, X, by omega, by go_num, rfl, hx0, hx1, HST, HW2⟩
          case measure => simp [intOf]; omega
      · obtain rfl : j = l := by omega
        have hr := HLK.out
        rw [List.drop_eq_nil_of_le (by rw [HT.out.len]; exact Nat.le_refl _), leftK_nil] at hr
        have HR := Lib.hid hr; clear hr
        go_wp2_with (fail)
        go_ret
        exact ⟨ret_i64 (by rw [HLE.out, HR.out]), HWW.out⟩
end Aterm
end Go.Proofs.YtolpdhkgkjnbfaaDoor
namespace Go.Proofs.YtolpdhkgkjnbfaaDoor
open Go.RowKit
set_option linter.unusedVariables false
set_option linter.unusedSimpArgs false
namespace Aterm
open Effect (At AtOk AtsAt Rd RdI ret_i64 ret_bool)
open Rt (box_new box_at below_then)
set_option maxRecDepth 10000 in
theorem great_walk (t : AT) (h : Hd) (v : V) (l : Nat) (w : World) (hT : AtIs w h v l t) :
    Calls Tryd.prog 7 #[.agg #[.int .u8 h.h.k, .int .u8 h.h.op, .int .i64 h.h.pl, .int .i64 h.h.n, .string h.h.name, .string h.h.arg, .string h.h.exn, .int .i64 h.rho, .slice v.ra h.rhos.length v.rc, .slice v.ea h.e.length v.ec, .int .u8 h.ty.h.k, .int .i64 h.ty.h.r, .slice v.tea h.ty.h.e.length v.tec, .slice v.tka h.ty.ks.length v.tkc, .int .u8 h.re.h.k, .int .i64 h.re.h.r, .slice v.sea h.re.h.e.length v.sec, .slice v.ska h.re.ks.length v.skc, .slice v.ka l v.kc]] w fun e w' => e = .returned (.bool (greatT t)) ∧ Below w.heap.size w w' := by
  have HT := Lib.hid hT
  clear hT
  go_enter Tryd.func7, Tryd.ntmps7
  go_upto_region 1 with (fail)
  obtain ⟨W0, hW0⟩ : ∃ W0, W0 = w.alloc (.cells #[.int .u8 h.h.k, .int .u8 h.h.op, .int .i64 h.h.pl, .int .i64 h.h.n, .string h.h.name, .string h.h.arg, .string h.h.exn, .int .i64 h.rho, .slice v.ra h.rhos.length v.rc, .slice v.ea h.e.length v.ec, .int .u8 h.ty.h.k, .int .i64 h.ty.h.r, .slice v.tea h.ty.h.e.length v.tec, .slice v.tka h.ty.ks.length v.tkc, .int .u8 h.re.h.k, .int .i64 h.re.h.r, .slice v.sea h.re.h.e.length v.sec, .slice v.ska h.re.ks.length v.skc, .slice v.ka l v.kc] 33) := ⟨_, rfl⟩
  have hbx : Box W0 w.heap.size h v l := by rw [hW0]; exact box_of (w := w) (h := h) (v := v) (l := l)
  have hb0 : Below w.heap.size w W0 := by rw [hW0]; exact box_new _
  rw [← hW0]
  clear hW0
  generalize hN0 : w.heap.size = N0 at hbx ⊢
  have HB0 := Lib.hid hb0
  have HRG := Lib.hid hbx.range
  clear hb0 hN0 hbx
  go_wp2_with (refine at_load rfl (.tmp 1) rfl N0 0 rfl HRG.out ?_)
  refine (left_walk _ t _ v l 400 _ (Nat.le_refl _) (HT.out.below HB0.out) (by omega) (by omega)).mono ?_
  rintro e w1 ⟨rfl, hb⟩
  have HB := Lib.hid (below_then HB0.out hb HB0.out.size); clear hb
  have hg : greatT t = decide (leftT t 400 < 0) := rfl
  have HG := Lib.hid hg; clear hg
  generalize leftT t 400 = X at *
  go_wp2
  go_ret
  exact ⟨ret_bool HG.out.symm, HB.out⟩
end Aterm
end Go.Proofs.YtolpdhkgkjnbfaaDoor
namespace Go.Proofs.YtolpdhkgkjnbfaaDoor
open Go.RowKit
set_option linter.unusedVariables false
set_option linter.unusedSimpArgs false
namespace Aterm
open Rt (box_new box_at below_then)

/-- Terms by value, one behind the other, their kids in the memory w. -/
def Flat (w : World) : List Value → List AT → Prop
  | xs, [] => xs = []
  | xs, t :: ts => ∃ q ys, xs = acells t.h q t.ks.length ++ ys ∧ AtIs w t.h q t.ks.length t ∧ Flat w ys ts
theorem Flat.append {w : World} : ∀ {ts us : List AT} {xs ys : List Value}, Flat w xs ts → Flat w ys us → Flat w (xs ++ ys) (ts ++ us)
  | [], us, xs, ys, h, k => by
    have : xs = [] := h
    subst this
    exact k
  | t :: ts, us, xs, ys, ⟨q, zs, he, hT, h⟩, k => ⟨q, zs ++ ys, by rw [he, List.append_assoc], hT, h.append k⟩
theorem Flat.len {w : World} : ∀ {ts : List AT} {xs : List Value}, Flat w xs ts → xs.length = ts.length * 19
  | [], xs, h => by
    have : xs = [] := h
    subst this
    rfl
  | t :: ts, xs, ⟨q, zs, he, _, h⟩ => by
    rw [he, List.length_append, h.len, List.length_cons]
    simp [acells]
    omega
theorem Flat.one {w : World} {t : AT} {h : Hd} {q : V} {l : Nat} (hT : AtIs w h q l t) : Flat w (acells h q l) [t] := by
  obtain ⟨h1, h2, h3, h4, h5⟩ := hT
  subst h1 h2
  exact ⟨q, [], by simp, ⟨rfl, rfl, h3, h4, h5⟩, rfl⟩
theorem Flat.get {w : World} : ∀ {ts : List AT} {xs : List Value}, Flat w xs ts → ∀ i, i < ts.length → ∃ q, AtIs w (tget ts i).h q (tget ts i).ks.length (tget ts i) ∧ ∀ j v, (acells (tget ts i).h q (tget ts i).ks.length)[j]? = some v → xs[i * 19 + j]? = some v
  | [], xs, _, i, hi => by simp at hi
  | t :: ts, xs, ⟨q, zs, he, hT, h⟩, 0, _ => by
    refine ⟨q, hT, fun j v hv => ?_⟩
    rw [he, Nat.zero_mul, Nat.zero_add, List.getElem?_append_left ?_]
    · exact hv
    · rcases Nat.lt_or_ge j (acells t.h q t.ks.length).length with h | h
      · exact h
      · rw [List.getElem?_eq_none (by exact h)] at hv; cases hv
  | t :: ts, xs, ⟨q, zs, he, hT, h⟩, i + 1, hi => by
    obtain ⟨q', h1, h2⟩ := h.get i (by simpa using hi)
    refine ⟨q', h1, fun j v hv => ?_⟩
    rw [he, List.getElem?_append_right (by simp [acells]; omega)]
    have e : (i + 1) * 19 + j - (acells t.h q t.ks.length).length = i * 19 + j := by simp [acells]; omega
    rw [e]
    exact h2 j v hv
theorem Flat.stay {w W : World} (hb : Below w.heap.size w W) : ∀ {ts : List AT} {xs : List Value}, Flat w xs ts → Flat W xs ts
  | [], xs, h => h
  | t :: ts, xs, ⟨q, zs, he, hT, h⟩ => ⟨q, zs, he, hT.below hb, h.stay hb⟩
theorem own_below {w W : World} {B e size n : Nat} {v : Value} {xs : List Value} (h : w.ownsRow B e size v n xs) (hb : Below w.heap.size w W) : W.ownsRow B e size v n xs :=
  h.kept (row := none) ⟨hb.os, hb.tape, hb.output, hb.size, fun q hq _ => hb.block q hq⟩ (by cases v.ownBlock <;> simp)
theorem range_below {w W : World} {b o : Nat} {cs : List Value} (h : w.rangeAt b o cs) (hb : Below w.heap.size w W) : W.rangeAt b o cs :=
  fun j v hv => (hb.cell (p := ⟨b, o + j, none⟩) (World.block_lt_of_cell? w _ (h j v hv))).trans (h j v hv)

end Aterm
end Go.Proofs.YtolpdhkgkjnbfaaDoor
namespace Go.Proofs.YtolpdhkgkjnbfaaDoor
open Go.RowKit
set_option linter.unusedVariables false
set_option linter.unusedSimpArgs false
namespace Aterm
open Effect (RdI nget nget_at nget_mem Ixs intsV own_slice)
open Rt (box_new box_at below_then)

theorem infoInt : (Tryd.prog.info? 3).map (fun i => (i.zero, i.size, i.bytes)) = some (some (.int .i64 0), 1, 8) := by kernel_rfl
theorem ints_one (l : List Int) : ∀ u ∈ intsV l, u.oneCell' = true := by
  intro u hu
  obtain ⟨x, _, rfl⟩ := List.mem_map.1 hu
  rfl
theorem ints_at {l : List Int} {j : Nat} {u : Value} (h : (intsV l)[j]? = some u) : j < l.length ∧ u = .int .i64 (nget l j) := by
  unfold intsV at h
  rw [List.getElem?_map] at h
  rcases Nat.lt_or_ge j l.length with hj | hj
  · rw [nget_at hj] at h
    exact ⟨hj, (Option.some.inj h).symm⟩
  · rw [List.getElem?_eq_none hj] at h; cases h
/-- A row that is read is appended to a row of one's own. -/
theorem append_rd {B m c1 n c : Nat} {W : World} {a1 q : Option Addr} {xs k : List Int} (h : Ixs B W (.slice a1 m c1) m xs) (hk : RdI W n q k) (hn : m + n ≤ 1000000000) (hB : B ≤ W.heap.size) :
    ∃ a' c' w', (∀ ty, (Builtin.append_ #[24, 24] ty #[.slice a1 m c1, .slice q n c]).run Tryd.prog W = .ok (.slice a' (m + n) c') w') ∧ Ixs B w' (.slice a' (m + n) c') (m + n) (xs ++ k) ∧ W.grownBy w' (Value.slice a1 m c1).ownBlock ∧ ((Value.slice a' (m + n) c').ownBlock = (Value.slice a1 m c1).ownBlock ∨ (Value.slice a' (m + n) c').ownBlock = some W.heap.size) := by
  obtain ⟨i0, hi, hz0, hz2, hz3⟩ := info_parts infoInt
  have hl := hk.len
  by_cases h0 : k = []
  · subst h0
    have hn0 : n = 0 := by rw [← hl]; rfl
    subst hn0
    have hcap : m ≤ c1 := by obtain ⟨a, c, e, _, h2⟩ := own_slice h; injection e with e1 e2 e3; omega
    refine ⟨a1, c1, W, fun ty => ?_, by rw [List.append_nil]; exact h, ⟨rfl, rfl, rfl, Nat.le_refl _, fun _ _ _ => rfl⟩, .inl ?_⟩
    case refine_2 => cases a1 <;> rfl
    cases a1 <;> cases q <;> simp [Builtin.append_, run_underlying Tryd.underlying24, sizeOf, typeInfo, hi, hz2, hcap, Builtin.firstCells, Builtin.lenOf, Go.loadCells, loadCells, loadCellsFrom, storeCells]
  · rcases hk.at_ with hk0 | ⟨b, o, rfl, hc⟩
    · exact absurd hk0 h0
    · have hpos : 0 < k.length := List.length_pos_iff.2 h0
      obtain ⟨v', w', hr, ho, hg, _, hob⟩ := run_append_own_at (P := Tryd.prog) W B 24 0 3 i0 _ 1 8 Tryd.underlying24 hi hz0 hz2 hz3 rfl (by omega) (.slice a1 m c1) m (intsV xs) h ⟨b, o, none⟩ n c (intsV k) (by unfold intsV; rw [List.length_map]; omega) (fun j u hu => by
        obtain ⟨hj, rfl⟩ := ints_at hu
        rw [Addr.add_lit]
        exact hc j hj) (ints_one k) (by unfold maxLen; omega) (by omega) hB
      obtain ⟨a', c', rfl, _, _⟩ := own_slice ho
      refine ⟨a', c', w', fun ty => hr, ?_, hg, hob⟩
      unfold Ixs
      rw [show intsV (xs ++ k) = intsV xs ++ intsV k from by unfold intsV; rw [List.map_append]]
      exact ho
theorem rd_one {W : World} {N : Nat} {x : Int} {ty : TypeId} (hN : N = W.heap.size) (hx : -9223372036854775808 ≤ x ∧ x ≤ 9223372036854775807) : RdI (W.alloc (.cells #[.int .i64 x] ty)) 1 (some ⟨N, 0, none⟩) [x] := by
  subst hN
  refine ⟨rfl, .inr ⟨_, 0, rfl, fun i hi => ?_⟩, fun y hy => by rw [List.mem_singleton] at hy; subst hy; exact hx⟩
  have hi0 : i = 0 := by simp at hi; omega
  subst hi0
  rw [World.cell?_alloc_mark]; rfl
theorem rd_nil (W : World) (p : Option Addr) : RdI W 0 p [] := ⟨rfl, .inl rfl, fun x hx => by cases hx⟩

set_option maxRecDepth 10000 in
theorem own2_walk (t : AT) (h : Hd) (v : V) (l : Nat) (w0 w : World) (hT : AtIs w0 h v l t) (hb00 : Below w0.heap.size w0 w) :
    Calls Tryd.prog 18 #[.agg #[.int .u8 h.h.k, .int .u8 h.h.op, .int .i64 h.h.pl, .int .i64 h.h.n, .string h.h.name, .string h.h.arg, .string h.h.exn, .int .i64 h.rho, .slice v.ra h.rhos.length v.rc, .slice v.ea h.e.length v.ec, .int .u8 h.ty.h.k, .int .i64 h.ty.h.r, .slice v.tea h.ty.h.e.length v.tec, .slice v.tka h.ty.ks.length v.tkc, .int .u8 h.re.h.k, .int .i64 h.re.h.r, .slice v.sea h.re.h.e.length v.sec, .slice v.ska h.re.ks.length v.skc, .slice v.ka l v.kc]] w fun e w' => ∃ p n c, e = .returned (.slice p n c) ∧ n = (ownH h).length ∧ RdI w' n p (ownH h) ∧ Below w.heap.size w w' ∧ (RdI w0 n p (ownH h) ∨ ∀ b o, p = some ⟨b, o, none⟩ → w.heap.size ≤ b ∧ b < w'.heap.size) := by
  have hrho := hT.ok.rho
  have hrd0 := hT.ok.rhos
  have hrd := hrd0.below hb00
  have HD0 := Lib.hid hrd0
  clear hrd0 hb00
  have hk : ownH h = if h.h.k = 17 then [h.rho] else if h.h.k = 13 then h.rhos else [] := rfl
  have HR := Lib.hid hrho; have HD := Lib.hid hrd
  clear hT hrho hrd
  by_cases h1 : h.h.k = 17
  · rw [if_pos h1] at hk
    rw [hk]
    have HK := Lib.hid h1
    clear hk h1
    go_enter Tryd.func18, Tryd.ntmps18
    go_upto_region 1 with (fail)
    obtain ⟨W0, hW0⟩ : ∃ W0, W0 = w.alloc (.cells #[.int .u8 h.h.k, .int .u8 h.h.op, .int .i64 h.h.pl, .int .i64 h.h.n, .string h.h.name, .string h.h.arg, .string h.h.exn, .int .i64 h.rho, .slice v.ra h.rhos.length v.rc, .slice v.ea h.e.length v.ec, .int .u8 h.ty.h.k, .int .i64 h.ty.h.r, .slice v.tea h.ty.h.e.length v.tec, .slice v.tka h.ty.ks.length v.tkc, .int .u8 h.re.h.k, .int .i64 h.re.h.r, .slice v.sea h.re.h.e.length v.sec, .slice v.ska h.re.ks.length v.skc, .slice v.ka l v.kc] 33) := ⟨_, rfl⟩
    have hbx : Box W0 w.heap.size h v l := by rw [hW0]; exact box_of (w := w) (h := h) (v := v) (l := l)
    have hb0 : Below w.heap.size w W0 := by rw [hW0]; exact box_new _
    rw [← hW0]
    clear hW0
    generalize hN0 : w.heap.size = N0 at hbx ⊢
    have HB0 := Lib.hid hb0; have HBX := Lib.hid hbx
    obtain ⟨b0, b1, b2, b3, b4, b5, b6, b7, b8, b9, b10, b11, b12, b13, b14, b15, b16, b17, b18⟩ := hbx
    clear hb0 hN0 b1 b2 b3 b4 b5 b6 b8 b9 b10 b11 b12 b13 b14 b15 b16 b17 b18
    rw [HK.out] at b0
    go_wp2_with (fail)
    go_ret
    exact ⟨_, _, _, rfl, rfl, rd_one rfl HR.out, HB0.out.trans ((box_new _).mono HB0.out.size), .inr (fun b o e => by injection e with e; injection e with e; subst e; exact ⟨HB0.out.size, by simp⟩)⟩
  · rw [if_neg h1] at hk
    by_cases h2 : h.h.k = 13
    · rw [if_pos h2] at hk
      rw [hk]
      have HK := Lib.hid h2
      clear hk h1 h2
      go_enter Tryd.func18, Tryd.ntmps18
      go_upto_region 1 with (fail)
      obtain ⟨W0, hW0⟩ : ∃ W0, W0 = w.alloc (.cells #[.int .u8 h.h.k, .int .u8 h.h.op, .int .i64 h.h.pl, .int .i64 h.h.n, .string h.h.name, .string h.h.arg, .string h.h.exn, .int .i64 h.rho, .slice v.ra h.rhos.length v.rc, .slice v.ea h.e.length v.ec, .int .u8 h.ty.h.k, .int .i64 h.ty.h.r, .slice v.tea h.ty.h.e.length v.tec, .slice v.tka h.ty.ks.length v.tkc, .int .u8 h.re.h.k, .int .i64 h.re.h.r, .slice v.sea h.re.h.e.length v.sec, .slice v.ska h.re.ks.length v.skc, .slice v.ka l v.kc] 33) := ⟨_, rfl⟩
      have hbx : Box W0 w.heap.size h v l := by rw [hW0]; exact box_of (w := w) (h := h) (v := v) (l := l)
      have hb0 : Below w.heap.size w W0 := by rw [hW0]; exact box_new _
      rw [← hW0]
      clear hW0
      generalize hN0 : w.heap.size = N0 at hbx ⊢
      have HB0 := Lib.hid hb0; have HBX := Lib.hid hbx
      obtain ⟨b0, b1, b2, b3, b4, b5, b6, b7, b8, b9, b10, b11, b12, b13, b14, b15, b16, b17, b18⟩ := hbx
      clear hb0 hN0 b1 b2 b3 b4 b5 b6 b7 b9 b10 b11 b12 b13 b14 b15 b16 b17 b18
      rw [HK.out] at b0
      go_wp2_with (fail)
      go_ret
      exact ⟨_, _, _, rfl, rfl, HD.out.below HB0.out, HB0.out, .inl HD0.out⟩
    · rw [if_neg h2] at hk
      rw [hk]
      have H1 := Lib.hid h1; have H2 := Lib.hid h2
      clear hk h1 h2
      go_enter Tryd.func18, Tryd.ntmps18
      go_upto_region 1 with (fail)
      obtain ⟨W0, hW0⟩ : ∃ W0, W0 = w.alloc (.cells #[.int .u8 h.h.k, .int .u8 h.h.op, .int .i64 h.h.pl, .int .i64 h.h.n, .string h.h.name, .string h.h.arg, .string h.h.exn, .int .i64 h.rho, .slice v.ra h.rhos.length v.rc, .slice v.ea h.e.length v.ec, .int .u8 h.ty.h.k, .int .i64 h.ty.h.r, .slice v.tea h.ty.h.e.length v.tec, .slice v.tka h.ty.ks.length v.tkc, .int .u8 h.re.h.k, .int .i64 h.re.h.r, .slice v.sea h.re.h.e.length v.sec, .slice v.ska h.re.ks.length v.skc, .slice v.ka l v.kc] 33) := ⟨_, rfl⟩
      have hbx : Box W0 w.heap.size h v l := by rw [hW0]; exact box_of (w := w) (h := h) (v := v) (l := l)
      have hb0 : Below w.heap.size w W0 := by rw [hW0]; exact box_new _
      rw [← hW0]
      clear hW0
      generalize hN0 : w.heap.size = N0 at hbx ⊢
      have HB0 := Lib.hid hb0; have HBX := Lib.hid hbx
      obtain ⟨b0, b1, b2, b3, b4, b5, b6, b7, b8, b9, b10, b11, b12, b13, b14, b15, b16, b17, b18⟩ := hbx
      clear hb0 hN0 b1 b2 b3 b4 b5 b6 b7 b8 b9 b10 b11 b12 b13 b14 b15 b16 b17 b18
      have h1 := H1.out; have h2 := H2.out
      go_wp2_with (fail)
      go_ret
      exact ⟨_, _, _, rfl, rfl, rd_nil _ _, HB0.out.trans ((box_new _).mono HB0.out.size), .inr (fun b o e => by injection e with e; injection e with e; subst e; exact ⟨HB0.out.size, by simp⟩)⟩
theorem own_walk (t : AT) (h : Hd) (v : V) (l : Nat) (w : World) (hT : AtIs w h v l t) :
    Calls Tryd.prog 18 #[.agg #[.int .u8 h.h.k, .int .u8 h.h.op, .int .i64 h.h.pl, .int .i64 h.h.n, .string h.h.name, .string h.h.arg, .string h.h.exn, .int .i64 h.rho, .slice v.ra h.rhos.length v.rc, .slice v.ea h.e.length v.ec, .int .u8 h.ty.h.k, .int .i64 h.ty.h.r, .slice v.tea h.ty.h.e.length v.tec, .slice v.tka h.ty.ks.length v.tkc, .int .u8 h.re.h.k, .int .i64 h.re.h.r, .slice v.sea h.re.h.e.length v.sec, .slice v.ska h.re.ks.length v.skc, .slice v.ka l v.kc]] w fun e w' => ∃ p n c, e = .returned (.slice p n c) ∧ n = (ownH h).length ∧ RdI w' n p (ownH h) ∧ Below w.heap.size w w' :=
  (own2_walk t h v l w w hT (Below.refl _ _)).mono fun e w' ⟨p, n, c, h1, h2, h3, h4, _⟩ => ⟨p, n, c, h1, h2, h3, h4⟩
end Aterm
end Go.Proofs.YtolpdhkgkjnbfaaDoor
namespace Go.Proofs.YtolpdhkgkjnbfaaDoor
open Go.RowKit
set_option linter.unusedVariables false
set_option linter.unusedSimpArgs false
namespace Aterm
open Effect (nget nget_at nget_mem ret_bool)
open Rt (box_new box_at box4)

/-- A row of bytes that is read. -/
structure RdB (w : World) (n : Nat) (p : Option Addr) (l : List Int) : Prop where
  len : l.length = n
  at_ : l = [] ∨ ∃ b o, p = some ⟨b, o, none⟩ ∧ ∀ i, i < l.length → w.cell? ⟨b, o + i, none⟩ = some (.int .u8 (nget l i))
theorem RdB.get {w : World} {n : Nat} {p : Option Addr} {l : List Int} (h : RdB w n p l) (i : Nat) (hi : i < l.length) : ∃ b o, p = some ⟨b, o, none⟩ ∧ w.cell? ⟨b, o + i, none⟩ = some (.int .u8 (nget l i)) := by
  rcases h.at_ with rfl | ⟨b, o, hp, hc⟩
  · simp at hi
  · exact ⟨b, o, hp, hc i hi⟩
/-- A row of kinds, just made. -/
theorem RdB.new {W : World} {N : Nat} {ty : TypeId} {l : List Int} (hN : N = W.heap.size) : RdB (W.alloc (.cells (l.map (Value.int .u8)).toArray ty)) l.length (some ⟨N, 0, none⟩) l := by
  subst hN
  refine ⟨rfl, .inr ⟨_, 0, rfl, fun i hi => ?_⟩⟩
  rw [World.cell?_alloc_mark]
  simp only [List.getElem?_toArray, List.getElem?_map, Nat.zero_add, nget_at hi, Option.map_some]
/-- Is a type none? -/
def plainB (t : Rt.RT) : Bool := decide (t.h.k = 0 ∧ t.h.r = 0 ∧ t.h.e.length = 0 ∧ t.ks.length = 0)
end Aterm
end Go.Proofs.YtolpdhkgkjnbfaaDoor
namespace Go.Proofs.YtolpdhkgkjnbfaaDoor
open Go.RowKit
set_option linter.unusedVariables false
namespace Term

theorem ret_i64 {a b : Int} (h : a = b) : Ending.returned (.int .i64 a) = .returned (.int .i64 b) := by rw [h]
theorem ret_bool {a b : Bool} (h : a = b) : Ending.returned (.bool a) = .returned (.bool b) := by rw [h]
theorem drop_tget (ts : List Tm) (k : Nat) (h : k < ts.length) : ts.drop k = tget ts k :: ts.drop (k + 1) := by
  rw [List.drop_eq_getElem_cons h]
  have := tget_at h
  rw [List.getElem?_eq_getElem h] at this
  rw [Option.some.inj this]
/-- A block just laid reads as it was laid, whatever came behind it. -/
theorem boxAt {w W : World} {cs : Array Value} {t : TypeId} (hb : Below (w.alloc (.cells cs t)).heap.size (w.alloc (.cells cs t)) W) (j : Nat) {v : Value} (hv : cs[j]? = some v) : W.cell? ⟨w.heap.size, j, none⟩ = some v := by
  have hlt : w.heap.size < (w.alloc (.cells cs t)).heap.size := by simp
  rw [hb.cell (p := ⟨w.heap.size, j, none⟩) hlt, World.cell?_alloc_mark, hv]

theorem take_tget (ts : List Tm) (k : Nat) (h : k < ts.length) : ts.take (k + 1) = ts.take k ++ [tget ts k] := by
  rw [List.take_add_one, tget_at h]; rfl
end Term
end Go.Proofs.YtolpdhkgkjnbfaaDoor
namespace Go.Proofs.YtolpdhkgkjnbfaaDoor
open Go.RowKit
set_option linter.unusedVariables false
namespace Term
open Words (nameB exnB)

/-- How many kids a kind has; -1. -/
def kidsN (k : Int) : Int :=
  if k = 1 ∨ k = 2 then 0 else if k = 4 ∨ k = 5 ∨ k = 6 ∨ k = 7 ∨ k = 11 ∨ k = 15 then 1 else if k = 3 ∨ k = 8 ∨ k = 9 ∨ k = 10 ∨ k = 12 ∨ k = 13 ∨ k = 16 then 2 else if k = 14 then 3 else -1
theorem kidsN_none {k : Int} (h : k < 1 ∨ 16 < k) : kidsN k = -1 := by unfold kidsN; repeat' split; all_goals omega

/-- Is a text there just where it should be? -/
def fitsB (there : Bool) (s : ByteArray) (ok : Bool) : Bool := if there = true then ok else decide (s.size = 0)
end Term
end Go.Proofs.YtolpdhkgkjnbfaaDoor
namespace Go.Proofs.YtolpdhkgkjnbfaaDoor
open Go.RowKit
set_option linter.unusedVariables false
namespace Term
open Words (nameB exnB)

def opOk (h : Hd) : Prop := if h.k = 9 then 1 ≤ h.op ∧ h.op ≤ 5 else h.op = 0
def nOk (h : Hd) : Prop := 0 ≤ h.n ∧ h.n ≤ 2147483647 ∧ (h.k ≠ 1 → h.n = 0)
instance (h : Hd) : Decidable (opOk h) := by unfold opOk; infer_instance
instance (h : Hd) : Decidable (nOk h) := by unfold nOk; infer_instance
def nameF (k : Int) : Bool := decide (k = 2 ∨ k = 12 ∨ k = 13)
def argF (k : Int) : Bool := decide (k = 11 ∨ k = 13 ∨ k = 16)
def exnF (k : Int) : Bool := decide (k = 15 ∨ k = 16)
/-- May a node alone be, of so many kids? -/
def nodeB (h : Hd) (l : Nat) : Bool := decide (kidsN h.k = l ∧ 0 ≤ h.pl ∧ opOk h ∧ nOk h) && (fitsB (nameF h.k) h.name (nameB h.name) && fitsB (argF h.k) h.arg (nameB h.arg) && fitsB (exnF h.k) h.exn (exnB h.exn))
theorem nodeB_no {h : Hd} {l : Nat} (hn : ¬ (kidsN h.k = l ∧ 0 ≤ h.pl ∧ opOk h ∧ nOk h)) : nodeB h l = false := by unfold nodeB; rw [decide_eq_false hn]; rfl
end Term
end Go.Proofs.YtolpdhkgkjnbfaaDoor
namespace Go.Proofs.YtolpdhkgkjnbfaaDoor
open Go.RowKit
set_option linter.unusedVariables false
namespace Term

mutual
/-- All nodes, each ahead of its kids'. -/
def flatT : Tm → List Tm
  | .node h l => .node h l :: flatK l
def flatK : List Tm → List Tm
  | [] => []
  | t :: ts => flatT t ++ flatK ts
end
theorem flatT_eq (t : Tm) : flatT t = t :: flatK t.ks := by cases t; unfold flatT; rfl
theorem flatK_nil : flatK [] = [] := by unfold flatK; rfl
theorem flatK_cons (t : Tm) (ts : List Tm) : flatK (t :: ts) = flatT t ++ flatK ts := by conv => lhs; unfold flatK
theorem flat_len : ∀ m : Nat, (∀ t, wt t ≤ m → (flatT t).length = wt t) ∧ (∀ ts, wts ts ≤ m → (flatK ts).length = wts ts) := by
  intro m
  induction m with
  | zero =>
    refine ⟨fun t h => by have := wt_pos t; omega, fun ts h => ?_⟩
    cases ts with
    | nil => rw [flatK_nil, wts_nil]; rfl
    | cons t ts => rw [wts_cons] at h; have := wt_pos t; omega
  | succ m ih =>
    have hT : ∀ t, wt t ≤ m + 1 → (flatT t).length = wt t := by
      intro t h
      have hk := wt_ks t
      have := ih.2 t.ks (by omega)
      rw [flatT_eq, List.length_cons, this]
      omega
    refine ⟨hT, fun ts => ?_⟩
    induction ts with
    | nil => intro _; rw [flatK_nil, wts_nil]; rfl
    | cons t ts ihs =>
      intro h
      rw [wts_cons] at h
      rw [flatK_cons, wts_cons, List.length_append, hT t (by omega), ihs (by omega)]
theorem flatT_len (t : Tm) : (flatT t).length = wt t := (flat_len (wt t)).1 t (Nat.le_refl _)
/-- Terms by value, one behind the other, their kids in the memory w. -/
def Flat (w : World) : List Value → List Tm → Prop
  | xs, [] => xs = []
  | xs, t :: ts => ∃ q c ys, xs = tcells t.h q t.ks.length c ++ ys ∧ TmIs w t.h q t.ks.length c t ∧ Flat w ys ts
theorem Flat.append {w : World} : ∀ {ts us : List Tm} {xs ys : List Value}, Flat w xs ts → Flat w ys us → Flat w (xs ++ ys) (ts ++ us)
  | [], us, xs, ys, h, k => by
    have : xs = [] := h
    subst this
    exact k
  | t :: ts, us, xs, ys, ⟨q, c, zs, he, hT, h⟩, k => ⟨q, c, zs ++ ys, by rw [he, List.append_assoc], hT, h.append k⟩
theorem Flat.len {w : World} : ∀ {ts : List Tm} {xs : List Value}, Flat w xs ts → xs.length = ts.length * 8
  | [], xs, h => by
    have : xs = [] := h
    subst this
    rfl
  | t :: ts, xs, ⟨q, c, zs, he, _, h⟩ => by
    rw [he, List.length_append, h.len, List.length_cons]
    simp [tcells]
    omega
theorem Flat.one {w : World} {t : Tm} {h : Hd} {q : Option Addr} {l c : Nat} (hT : TmIs w h q l c t) : Flat w (tcells h q l c) [t] := by
  obtain ⟨h1, h2, h3, h4, h5⟩ := hT
  subst h1 h2
  exact ⟨q, c, [], by simp, ⟨rfl, rfl, h3, h4, h5⟩, rfl⟩
theorem Flat.get {w : World} : ∀ {ts : List Tm} {xs : List Value}, Flat w xs ts → ∀ i, i < ts.length → ∃ q c, TmIs w (tget ts i).h q (tget ts i).ks.length c (tget ts i) ∧ ∀ j v, (tcells (tget ts i).h q (tget ts i).ks.length c)[j]? = some v → xs[i * 8 + j]? = some v
  | [], xs, _, i, hi => by simp at hi
  | t :: ts, xs, ⟨q, c, zs, he, hT, h⟩, 0, _ => by
    refine ⟨q, c, hT, fun j v hv => ?_⟩
    rw [he, Nat.zero_mul, Nat.zero_add, List.getElem?_append_left ?_]
    · exact hv
    · rcases Nat.lt_or_ge j (tcells t.h q t.ks.length c).length with h | h
      · exact h
      · rw [List.getElem?_eq_none (by exact h)] at hv; cases hv
  | t :: ts, xs, ⟨q, c, zs, he, hT, h⟩, i + 1, hi => by
    obtain ⟨q', c', h1, h2⟩ := h.get i (by simpa using hi)
    refine ⟨q', c', h1, fun j v hv => ?_⟩
    rw [he, List.getElem?_append_right (by simp [tcells]; omega)]
    have e : (i + 1) * 8 + j - (tcells t.h q t.ks.length c).length = i * 8 + j := by simp [tcells]; omega
    rw [e]
    exact h2 j v hv
theorem Flat.stay {w W : World} (hb : Below w.heap.size w W) : ∀ {ts : List Tm} {xs : List Value}, Flat w xs ts → Flat W xs ts
  | [], xs, h => h
  | t :: ts, xs, ⟨q, c, zs, he, hT, h⟩ => ⟨q, c, zs, he, hT.below hb, h.stay hb⟩
theorem infoTerm : (Tryd.prog.info? 44).map (fun i => (i.zero, i.size, i.bytes)) = some (some (.agg #[.int .u8 0, .int .u8 0, .int .i64 0, .int .i64 0, .string ⟨#[]⟩, .string ⟨#[]⟩, .string ⟨#[]⟩, .slice none 0 0]), 8, 96) := by kernel_rfl
end Term
end Go.Proofs.YtolpdhkgkjnbfaaDoor
namespace Go.Proofs.YtolpdhkgkjnbfaaDoor
open Go.RowKit
set_option linter.unusedVariables false
namespace Term
open Words (nameB exnB)

mutual
/-- May all nodes be? -/
def okT : Tm → Bool
  | .node h l => nodeB h l.length && okK l
def okK : List Tm → Bool
  | [] => true
  | t :: ts => okT t && okK ts
end
theorem okT_eq (t : Tm) : okT t = (nodeB t.h t.ks.length && okK t.ks) := by
  cases t
  conv => lhs; unfold okT
  rfl
theorem okK_nil : okK [] = true := by unfold okK; rfl
theorem okK_cons (t : Tm) (ts : List Tm) : okK (t :: ts) = (okT t && okK ts) := by conv => lhs; unfold okK
/-- May a term be? -/
def mayT (t : Tm) : Bool := decide (wt t ≤ 4000) && okT t
end Term
end Go.Proofs.YtolpdhkgkjnbfaaDoor
namespace Go.Proofs.YtolpdhkgkjnbfaaDoor
open Go.RowKit
set_option linter.unusedVariables false
set_option linter.unusedSimpArgs false
namespace Aterm
open Effect (At AtOk AtsAt Rd RdI ofA)
open Words (nameB exnB)

/-- A head of a kind that layer 4 knows, of just these fields and kids. -/
def likeK (k : Int) : Int := if k = 17 then 4 else if k = 18 then 2 else k
def likeH (h : Term.Hd) : Term.Hd := { h with k := likeK h.k }
def headOk (h : Term.Hd) (n : Nat) : Bool := Term.nodeB (likeH h) n
def rhoOk (h : Hd) : Bool := if h.h.k = 3 ∨ h.h.k = 6 ∨ h.h.k = 11 ∨ h.h.k = 13 ∨ h.h.k = 18 then decide (0 ≤ h.rho) else if h.h.k = 17 then decide (1 ≤ h.rho) else decide (h.rho = 0)
def rhosOk (h : Hd) : Bool := if h.h.k = 13 then !metO [] h.rhos && decide (∀ x ∈ h.rhos, 1 ≤ x) else if h.h.k = 18 then decide (∀ x ∈ h.rhos, 0 ≤ x) else decide (h.rhos.length = 0)
def effK (k : Int) : Bool := decide (k = 11 ∨ k = 13 ∨ k = 18)
def typK (k : Int) : Bool := decide (k = 11 ∨ k = 13 ∨ k = 15)
def effOk (h : Hd) : Bool := if effK h.h.k = true then decide (h.e = ofA h.e) else decide (h.e.length = 0)
def typOk (h : Hd) : Bool := if typK h.h.k = true then Rt.mayT h.ty else plainB h.ty
def resOk (h : Hd) : Bool := if h.h.k = 13 then Rt.mayT h.re else plainB h.re
/-- May a node alone be, of so many kids? -/
def nodeB (h : Hd) (n : Nat) : Bool := headOk h.h n && rhoOk h && rhosOk h && effOk h && typOk h && resOk h
/-- May a term be? -/
def mayT (t : AT) : Bool := decide (wt t ≤ 40000) && allT nodeB t

theorem kids_le {k : Int} : Term.kidsN k ≤ 3 := by unfold Term.kidsN; repeat' split; all_goals omega
theorem head_many {h : Term.Hd} {n : Nat} (hn : 3 < n) : headOk h n = false := by
  unfold headOk
  exact Term.nodeB_no (fun hh => by have := kids_le (k := (likeH h).k); have := hh.1; omega)

/-! ### All nodes, as far as they hold -/
mutual
def foT {σ : Type} (B : σ → AT → Bool) (S : σ → AT → σ) : AT → σ → Bool × σ
  | .node h l, s => if B s (.node h l) = true then foK B S l (S s (.node h l)) else (false, S s (.node h l))
def foK {σ : Type} (B : σ → AT → Bool) (S : σ → AT → σ) : List AT → σ → Bool × σ
  | [], s => (true, s)
  | t :: ts, s => if (foT B S t s).1 = true then foK B S ts (foT B S t s).2 else (false, (foT B S t s).2)
end
section
variable {σ : Type} (B : σ → AT → Bool) (S : σ → AT → σ)
theorem foT_eq (t : AT) (s : σ) : foT B S t s = if B s t = true then foK B S t.ks (S s t) else (false, S s t) := by cases t; unfold foT; rfl
theorem foK_nil (s : σ) : foK B S [] s = (true, s) := by unfold foK; rfl
theorem foK_cons (t : AT) (ts : List AT) (s : σ) : foK B S (t :: ts) s = if (foT B S t s).1 = true then foK B S ts (foT B S t s).2 else (false, (foT B S t s).2) := by conv => lhs; unfold foK
theorem foK_no {ts : List AT} {j : Nat} {u : σ} (hj : j < ts.length) (h : B u (tget ts j) = false) : foK B S (ts.drop j) u = (false, S u (tget ts j)) := by
  rw [drop_tget ts j hj, foK_cons, foT_eq]
  simp [h]
theorem foK_kno {ts : List AT} {j : Nat} {u : σ} (hj : j < ts.length) (h : B u (tget ts j) = true) (hk : (foK B S (tget ts j).ks (S u (tget ts j))).1 = false) : foK B S (ts.drop j) u = (false, (foK B S (tget ts j).ks (S u (tget ts j))).2) := by
  rw [drop_tget ts j hj, foK_cons, foT_eq, if_pos h, if_neg (by rw [hk]; exact Bool.false_ne_true)]
theorem foK_yes {ts : List AT} {j : Nat} {u : σ} (hj : j < ts.length) (h : B u (tget ts j) = true) (hk : (foK B S (tget ts j).ks (S u (tget ts j))).1 = true) : foK B S (ts.drop j) u = foK B S (ts.drop (j + 1)) (foK B S (tget ts j).ks (S u (tget ts j))).2 := by
  rw [drop_tget ts j hj, foK_cons, foT_eq, if_pos h, if_pos hk]
/-- Along the list of nodes. -/
def foL : List AT → σ → Bool × σ
  | [], s => (true, s)
  | t :: ts, s => if B s t = true then foL ts (S s t) else (false, S s t)
theorem foL_append (l m : List AT) (s : σ) : foL B S (l ++ m) s = if (foL B S l s).1 = true then foL B S m (foL B S l s).2 else foL B S l s := by
  induction l generalizing s with
  | nil => simp [foL]
  | cons t ts ih =>
    rw [List.cons_append, foL, foL]
    by_cases hb : B s t = true
    · rw [if_pos hb, if_pos hb]; exact ih _
    · rw [if_neg hb, if_neg hb, if_neg Bool.false_ne_true]
theorem fo_flat : ∀ m : Nat, (∀ t s, wt t ≤ m → foT B S t s = foL B S (flatT t) s) ∧ (∀ ts s, wts ts ≤ m → foK B S ts s = foL B S (flatK ts) s) := by
  intro m
  induction m with
  | zero =>
    refine ⟨fun t s h => by have := wt_pos t; omega, fun ts s h => ?_⟩
    cases ts with
    | nil => rw [flatK_nil, foK_nil]; rfl
    | cons t ts => rw [wts_cons] at h; have := wt_pos t; omega
  | succ m ih =>
    have hT : ∀ t s, wt t ≤ m + 1 → foT B S t s = foL B S (flatT t) s := by
      intro t s h
      have hk := wt_ks t
      rw [flatT_eq, foT_eq, foL]
      split
      · exact ih.2 t.ks _ (by omega)
      · rfl
    refine ⟨hT, fun ts => ?_⟩
    induction ts with
    | nil => intro s _; rw [flatK_nil, foK_nil]; rfl
    | cons t ts ihs =>
      intro s h
      rw [wts_cons] at h
      rw [flatK_cons, foK_cons, foL_append, ← hT t s (by omega)]
      split
      · exact ihs _ (by omega)
      · rename_i hh
        have : (foT B S t s).1 = false := by simpa using hh
        rw [← this]
theorem foT_flat (t : AT) (s : σ) : foT B S t s = foL B S (flatT t) s := (fo_flat B S (wt t)).1 t s (Nat.le_refl _)
theorem foK_flat (ts : List AT) (s : σ) : foK B S ts s = foL B S (flatK ts) s := (fo_flat B S (wts ts)).2 ts s (Nat.le_refl _)
end
/-- Of what holds always. -/
theorem foL_true {σ : Type} (S : σ → AT → σ) : ∀ (l : List AT) (s : σ), foL (fun _ _ => true) S l s = (true, l.foldl S s)
  | [], s => rfl
  | t :: ts, s => by rw [foL, if_pos rfl, foL_true S ts, List.foldl_cons]

/-! ### May -/
def mayB (s : Int) (t : AT) : Bool := decide (0 ≤ s - 1) && nodeB t.h t.ks.length
def mayS (s : Int) (_ : AT) : Int := s - 1
theorem foL_may : ∀ (l : List AT) (s : Int), 0 ≤ s → (foL mayB mayS l s).1 = (decide ((l.length : Int) ≤ s) && l.all fun t => nodeB t.h t.ks.length)
  | [], s, hs => by rw [foL]; simp; exact hs
  | t :: ts, s, hs => by
    rw [foL]
    by_cases h0 : 0 ≤ s - 1
    · have hb : mayB s t = nodeB t.h t.ks.length := by unfold mayB; rw [decide_eq_true h0, Bool.true_and]
      cases hn : nodeB t.h t.ks.length
      · rw [hb, hn, if_neg Bool.false_ne_true]
        simp [hn]
      · rw [hb, hn, if_pos rfl, foL_may ts (mayS s t) h0, List.all_cons, hn, Bool.true_and, List.length_cons]
        congr 1
        rw [decide_eq_decide]
        unfold mayS
        omega
    · have hb : mayB s t = false := by unfold mayB; rw [decide_eq_false h0, Bool.false_and]
      rw [hb, if_neg Bool.false_ne_true, decide_eq_false (by rw [List.length_cons]; omega), Bool.false_and]
section
variable (B : Hd → Nat → Bool)
theorem all_flat : ∀ m : Nat, (∀ t, wt t ≤ m → allT B t = (flatT t).all fun t => B t.h t.ks.length) ∧ (∀ ts, wts ts ≤ m → allK B ts = (flatK ts).all fun t => B t.h t.ks.length) := by
  intro m
  induction m with
  | zero =>
    refine ⟨fun t h => by have := wt_pos t; omega, fun ts h => ?_⟩
    cases ts with
    | nil => rw [flatK_nil, allK_nil]; rfl
    | cons t ts => rw [wts_cons] at h; have := wt_pos t; omega
  | succ m ih =>
    have hT : ∀ t, wt t ≤ m + 1 → allT B t = (flatT t).all fun t => B t.h t.ks.length := by
      intro t h
      have hk := wt_ks t
      rw [allT_eq, flatT_eq, List.all_cons, ih.2 t.ks (by omega)]
    refine ⟨hT, fun ts => ?_⟩
    induction ts with
    | nil => intro _; rw [flatK_nil, allK_nil]; rfl
    | cons t ts ihs =>
      intro h
      rw [wts_cons] at h
      rw [allK_cons, flatK_cons, List.all_append, hT t (by omega), ihs (by omega)]
theorem allT_flat (t : AT) : allT B t = (flatT t).all fun t => B t.h t.ks.length := (all_flat B (wt t)).1 t (Nat.le_refl _)
end
theorem fo_may (t : AT) : (foT mayB mayS t 40000).1 = mayT t := by
  rw [foT_flat, foL_may _ _ (by omega), flatT_len, ← allT_flat]
  unfold mayT
  congr 1
  rw [decide_eq_decide]
  omega

/-! ### Apart -/
/-- What is met behind a node's own, up to the first one that was met. -/
def metI : List Int → List Int → List Int
  | met, [] => met
  | met, x :: xs => if met.contains x = true then met else metI (met ++ [x]) xs
theorem metI_no : ∀ (xs met : List Int), metO met xs = false → metI met xs = met ++ xs
  | [], met, _ => by rw [metI, List.append_nil]
  | x :: xs, met, h => by
    rw [metO, Bool.or_eq_false_iff] at h
    rw [metI, if_neg (by rw [h.1]; exact Bool.false_ne_true), metI_no xs _ h.2, List.append_assoc]; rfl
/-- What is met, and where one was met again. -/
def apS (s : List Int × Option Int) (t : AT) : List Int × Option Int := (metI s.1 (ownH t.h), if metO s.1 (ownH t.h) = true then some t.h.h.pl else s.2)
def apB (s : List Int × Option Int) (t : AT) : Bool := !metO s.1 (ownH t.h)
theorem foL_apart : ∀ (l : List AT) (met : List Int), (foL apB apS l (met, none)).1 = (apartL l met).isNone ∧ (foL apB apS l (met, none)).2.2 = apartL l met
  | [], met => ⟨rfl, rfl⟩
  | t :: ts, met => by
    rw [foL, apartL]
    by_cases hm : metO met (ownH t.h) = true
    · have hb : apB (met, none) t = false := by unfold apB; simp only; rw [hm]; rfl
      have hs : (apS (met, none) t).2 = some t.h.h.pl := by unfold apS; simp only; rw [if_pos hm]
      rw [hb, if_neg Bool.false_ne_true, if_pos hm]
      exact ⟨rfl, hs⟩
    · have hm' : metO met (ownH t.h) = false := by simpa using hm
      have hb : apB (met, none) t = true := by unfold apB; simp only; rw [hm']; rfl
      have hs : apS (met, none) t = (met ++ ownH t.h, none) := by unfold apS; simp only; rw [if_neg hm, metI_no _ _ hm']
      rw [hb, if_pos rfl, if_neg hm, hs]
      exact foL_apart ts _
theorem fo_apart (t : AT) : (foT apB apS t ([], none)).1 = (apartT t).isNone ∧ (foT apB apS t ([], none)).2.2 = apartT t := by
  rw [foT_flat]
  exact foL_apart _ _
end Aterm
end Go.Proofs.YtolpdhkgkjnbfaaDoor
