import Derived.Test.YtkfkpjngiffamaaGreatDoorGC11
import Derived.Test.YtkfkpjngiffamaaGreatDoorGC09
import Derived.Test.YtkfkpjngiffamaaGreatDoorGC04
import Derived.Test.YtkfkpjngiffamaaGreatDoorGC10
import Derived.Maps.OwnSet
namespace Go.Proofs.YtkfkpjngiffamaaGreatDoor
open Go.RowKit
set_option linter.unusedVariables false
set_option linter.unusedSimpArgs false
namespace Aterm
open Effect (RdI nget nget_at nget_mem ret_bool ret_i64 lt_of_block heap_alloc_new ofA)
open Rt (box_new box_at below_then)

set_option maxRecDepth 10000 in
theorem none_walk (t : Rt.RT) (pe : Option Addr) (ce : Nat) (p : Option Addr) (c : Nat) (w : World) (hl : t.ks.length ≤ 9223372036854775807) (he : t.h.e.length ≤ 9223372036854775807) :
  Calls Tryz.prog 86 #[.agg #[.int .u8 t.h.k, .int .i64 t.h.r, .slice pe t.h.e.length ce, .slice p t.ks.length c]] w fun e w' => e = .returned (.bool (plainB t)) ∧ Below w.heap.size w w' := by
 have hp : plainB t = decide (t.h.k = 0 ∧ t.h.r = 0 ∧ t.h.e.length = 0 ∧ t.ks.length = 0) := rfl
 have hbox : ∀ O : Obj, Below w.heap.size w (w.alloc O) := fun O => box_new O
 have HBOX := Lib.hid hbox
 clear hbox
 generalize t.h.e.length = n at *
 generalize t.ks.length = l at *
 generalize t.h.k = k at *
 generalize t.h.r = r at *
 generalize plainB t = B at *
 by_cases h1 : k = 0
 ·subst h1
  by_cases h2 : r = 0
  ·subst h2
   by_cases h3 : n = 0
   ·subst h3
    by_cases h4 : l = 0
    ·subst h4
     have HP := Lib.hid (show B = true by rw [hp]; simp)
     clear hp
     go_enter Tryz.func86, Tryz.ntmps86
     go_wp2_with (fail)
     go_ret
     exact ⟨ret_bool HP.out.symm, HBOX.out _⟩
    ·have HP := Lib.hid (show B = false by rw [hp]; simp [h4])
     have hx : ((l : Int) == 0) = false := by rw [beq_eq_false_iff_ne]; omega
     clear hp h4
     go_enter Tryz.func86, Tryz.ntmps86
     go_wp2_with (fail)
     go_ret
     exact ⟨ret_bool HP.out.symm, HBOX.out _⟩
   ·have HP := Lib.hid (show B = false by rw [hp]; simp [h3])
    have hx : ((n : Int) == 0) = false := by rw [beq_eq_false_iff_ne]; omega
    clear hp h3
    go_enter Tryz.func86, Tryz.ntmps86
    go_wp2_with (fail)
    go_ret
    exact ⟨ret_bool HP.out.symm, HBOX.out _⟩
  ·have HP := Lib.hid (show B = false by rw [hp]; simp [h2])
   have hx : (r == 0) = false := by simpa using h2
   clear hp h2
   go_enter Tryz.func86, Tryz.ntmps86
   go_wp2_with (fail)
   go_ret
   exact ⟨ret_bool HP.out.symm, HBOX.out _⟩
 ·have HP := Lib.hid (show B = false by rw [hp]; simp [h1])
  have hx : (k == 0) = false := by simpa using h1
  clear hp h1
  go_enter Tryz.func86, Tryz.ntmps86
  go_wp2_with (fail)
  go_ret
  exact ⟨ret_bool HP.out.symm, HBOX.out _⟩

theorem of_not {a b : Int} (h : ¬ a = b) : (a == b) = false := by simpa using h
set_option maxRecDepth 10000 in
set_option maxHeartbeats 3200000 in
theorem rhoFits_walk (t : AT) (h : Hd) (v : V) (l : Nat) (w : World) (hT : AtIs w h v l t) :
  Calls Tryz.prog 61 #[.agg #[.int .u8 h.h.k, .int .u8 h.h.op, .int .i64 h.h.pl, .int .i64 h.h.n, .string h.h.name, .string h.h.arg, .string h.h.exn, .int .i64 h.rho, .slice v.ra h.rhos.length v.rc, .slice v.ea h.e.length v.ec, .int .u8 h.ty.h.k, .int .i64 h.ty.h.r, .slice v.tea h.ty.h.e.length v.tec, .slice v.tka h.ty.ks.length v.tkc, .int .u8 h.re.h.k, .int .i64 h.re.h.r, .slice v.sea h.re.h.e.length v.sec, .slice v.ska h.re.ks.length v.skc, .slice v.ka l v.kc]] w fun e w' => e = .returned (.bool (rhoOk h)) ∧ Below w.heap.size w w' := by
 have hrho := hT.ok.rho
 have hr : rhoOk h = if h.h.k = 3 ∨ h.h.k = 6 ∨ h.h.k = 11 ∨ h.h.k = 13 ∨ h.h.k = 18 then decide (0 ≤ h.rho) else if h.h.k = 17 then decide (1 ≤ h.rho) else decide (h.rho = 0) := rfl
 have hone : ∀ (N : Nat) (W : World), N = W.heap.size → RdI (W.alloc (.cells #[.int .i64 h.rho] 3)) 1 (some ⟨N, 0, none⟩) [h.rho] := fun N W e => rd_one e hrho
 have hl0 : decide (∀ x ∈ [h.rho], 0 ≤ x) = decide (0 ≤ h.rho) := by simp
 have hl1 : decide (∀ x ∈ [h.rho], 1 ≤ x) = decide (1 ≤ h.rho) := by simp
 have HONE := Lib.hid hone; have HL0 := Lib.hid hl0; have HL1 := Lib.hid hl1
 clear hT hrho hone hl0 hl1
 by_cases h1 : h.h.k = 3 ∨ h.h.k = 6 ∨ h.h.k = 11 ∨ h.h.k = 13 ∨ h.h.k = 18
 ·rw [if_pos h1] at hr
  have HR := Lib.hid hr
  clear hr
  rcases h1 with hk | hk | hk | hk | hk
  all_goals
   have HK := Lib.hid hk
   clear hk
   go_enter Tryz.func61, Tryz.ntmps61
   go_upto_region 1 with (fail)
   obtain ⟨W0, hW0⟩ : ∃ W0, W0 = w.alloc (.cells #[.int .u8 h.h.k, .int .u8 h.h.op, .int .i64 h.h.pl, .int .i64 h.h.n, .string h.h.name, .string h.h.arg, .string h.h.exn, .int .i64 h.rho, .slice v.ra h.rhos.length v.rc, .slice v.ea h.e.length v.ec, .int .u8 h.ty.h.k, .int .i64 h.ty.h.r, .slice v.tea h.ty.h.e.length v.tec, .slice v.tka h.ty.ks.length v.tkc, .int .u8 h.re.h.k, .int .i64 h.re.h.r, .slice v.sea h.re.h.e.length v.sec, .slice v.ska h.re.ks.length v.skc, .slice v.ka l v.kc] 31) := ⟨_, rfl⟩
   have hbx : Box W0 w.heap.size h v l := by rw [hW0]; exact box_of (w := w) (h := h) (v := v) (l := l)
   have hb0 : Below w.heap.size w W0 := by rw [hW0]; exact box_new _
   rw [← hW0]
   clear hW0
   generalize hN0 : w.heap.size = N0 at hbx ⊢
   have HB0 := Lib.hid hb0; have HBX := Lib.hid hbx
   obtain ⟨b0, b1, b2, b3, b4, b5, b6, b7, b8, b9, b10, b11, b12, b13, b14, b15, b16, b17, b18⟩ := hbx
   clear hb0 hN0 b1 b2 b3 b4 b5 b6 b8 b9 b10 b11 b12 b13 b14 b15 b16 b17 b18
   rw [HK.out] at b0
   go_wp2_with (fail)
   refine (from_walk (c := 1) (HONE.out _ W0 rfl) (by omega) 0).mono ?_
   rintro e w1 ⟨rfl, hb1⟩
   have HB1 := Lib.hid (HB0.out.trans (((box_new _).trans (hb1.mono (by simp))).mono HB0.out.size))
   clear hb1 b0 b7
   rw [HL0.out]
   go_wp2_with (fail)
   go_ret
   exact ⟨ret_bool HR.out.symm, HB1.out⟩
 ·rw [if_neg h1] at hr
  have k3 : ¬ h.h.k = 3 := fun e => h1 (.inl e)
  have k6 : ¬ h.h.k = 6 := fun e => h1 (.inr (.inl e))
  have k11 : ¬ h.h.k = 11 := fun e => h1 (.inr (.inr (.inl e)))
  have k13 : ¬ h.h.k = 13 := fun e => h1 (.inr (.inr (.inr (.inl e))))
  have k18 : ¬ h.h.k = 18 := fun e => h1 (.inr (.inr (.inr (.inr e))))
  clear h1
  by_cases h2 : h.h.k = 17
  ·rw [if_pos h2] at hr
   have HR := Lib.hid hr; have HK := Lib.hid h2
   clear hr h2 k3 k6 k11 k13 k18
   go_enter Tryz.func61, Tryz.ntmps61
   go_upto_region 1 with (fail)
   obtain ⟨W0, hW0⟩ : ∃ W0, W0 = w.alloc (.cells #[.int .u8 h.h.k, .int .u8 h.h.op, .int .i64 h.h.pl, .int .i64 h.h.n, .string h.h.name, .string h.h.arg, .string h.h.exn, .int .i64 h.rho, .slice v.ra h.rhos.length v.rc, .slice v.ea h.e.length v.ec, .int .u8 h.ty.h.k, .int .i64 h.ty.h.r, .slice v.tea h.ty.h.e.length v.tec, .slice v.tka h.ty.ks.length v.tkc, .int .u8 h.re.h.k, .int .i64 h.re.h.r, .slice v.sea h.re.h.e.length v.sec, .slice v.ska h.re.ks.length v.skc, .slice v.ka l v.kc] 31) := ⟨_, rfl⟩
   have hbx : Box W0 w.heap.size h v l := by rw [hW0]; exact box_of (w := w) (h := h) (v := v) (l := l)
   have hb0 : Below w.heap.size w W0 := by rw [hW0]; exact box_new _
   rw [← hW0]
   clear hW0
   generalize hN0 : w.heap.size = N0 at hbx ⊢
   have HB0 := Lib.hid hb0; have HBX := Lib.hid hbx
   obtain ⟨b0, b1, b2, b3, b4, b5, b6, b7, b8, b9, b10, b11, b12, b13, b14, b15, b16, b17, b18⟩ := hbx
   clear hb0 hN0 b1 b2 b3 b4 b5 b6 b8 b9 b10 b11 b12 b13 b14 b15 b16 b17 b18
   rw [HK.out] at b0
   go_wp2_with (fail)
   refine (from_walk (c := 1) (HONE.out _ W0 rfl) (by omega) 1).mono ?_
   rintro e w1 ⟨rfl, hb1⟩
   have HB1 := Lib.hid (HB0.out.trans (((box_new _).trans (hb1.mono (by simp))).mono HB0.out.size))
   clear hb1 b0 b7
   rw [HL1.out]
   go_wp2_with (fail)
   go_ret
   exact ⟨ret_bool HR.out.symm, HB1.out⟩
  ·rw [if_neg h2] at hr
   have e3 := of_not k3; have e6 := of_not k6; have e11 := of_not k11; have e13 := of_not k13; have e18 := of_not k18; have e17 := of_not h2
   clear k3 k6 k11 k13 k18 h2
   have hd : decide (h.rho = 0) = (h.rho == 0) := by by_cases e : h.rho = 0 <;> simp [e]
   have HR := Lib.hid (hr.trans hd)
   clear hr hd
   go_enter Tryz.func61, Tryz.ntmps61
   go_upto_region 1 with (fail)
   obtain ⟨W0, hW0⟩ : ∃ W0, W0 = w.alloc (.cells #[.int .u8 h.h.k, .int .u8 h.h.op, .int .i64 h.h.pl, .int .i64 h.h.n, .string h.h.name, .string h.h.arg, .string h.h.exn, .int .i64 h.rho, .slice v.ra h.rhos.length v.rc, .slice v.ea h.e.length v.ec, .int .u8 h.ty.h.k, .int .i64 h.ty.h.r, .slice v.tea h.ty.h.e.length v.tec, .slice v.tka h.ty.ks.length v.tkc, .int .u8 h.re.h.k, .int .i64 h.re.h.r, .slice v.sea h.re.h.e.length v.sec, .slice v.ska h.re.ks.length v.skc, .slice v.ka l v.kc] 31) := ⟨_, rfl⟩
   have hbx : Box W0 w.heap.size h v l := by rw [hW0]; exact box_of (w := w) (h := h) (v := v) (l := l)
   have hb0 : Below w.heap.size w W0 := by rw [hW0]; exact box_new _
   rw [← hW0]
   clear hW0
   generalize hN0 : w.heap.size = N0 at hbx ⊢
   have HB0 := Lib.hid hb0; have HBX := Lib.hid hbx
   obtain ⟨b0, b1, b2, b3, b4, b5, b6, b7, b8, b9, b10, b11, b12, b13, b14, b15, b16, b17, b18⟩ := hbx
   clear hb0 hN0 b1 b2 b3 b4 b5 b6 b8 b9 b10 b11 b12 b13 b14 b15 b16 b17 b18
   go_wp2_with (fail)
   go_ret
   exact ⟨ret_bool HR.out.symm, HB0.out⟩

set_option maxRecDepth 10000 in
set_option maxHeartbeats 3200000 in
theorem effFits_walk (t : AT) (h : Hd) (v : V) (l : Nat) (w : World) (hT : AtIs w h v l t) (he : h.e.length ≤ 100000) :
  Calls Tryz.prog 63 #[.agg #[.int .u8 h.h.k, .int .u8 h.h.op, .int .i64 h.h.pl, .int .i64 h.h.n, .string h.h.name, .string h.h.arg, .string h.h.exn, .int .i64 h.rho, .slice v.ra h.rhos.length v.rc, .slice v.ea h.e.length v.ec, .int .u8 h.ty.h.k, .int .i64 h.ty.h.r, .slice v.tea h.ty.h.e.length v.tec, .slice v.tka h.ty.ks.length v.tkc, .int .u8 h.re.h.k, .int .i64 h.re.h.r, .slice v.sea h.re.h.e.length v.sec, .slice v.ska h.re.ks.length v.skc, .slice v.ka l v.kc]] w fun e w' => e = .returned (.bool (effOk h)) ∧ Below w.heap.size w w' := by
 have hr : effOk h = if effK h.h.k = true then decide (h.e = ofA h.e) else decide (h.e.length = 0) := rfl
 have hmay := fun (W : World) (hb : Below w.heap.size w W) => Effect.may_walk (c := v.ec) (hT.ok.eff.below hb).rd he
 have HMAY := Lib.hid hmay
 clear hT hmay
 by_cases h1 : h.h.k = 11 ∨ h.h.k = 13 ∨ h.h.k = 18
 ·rw [if_pos (show effK h.h.k = true from decide_eq_true h1)] at hr
  have HR := Lib.hid hr
  clear hr
  rcases h1 with hk | hk | hk
  all_goals
   have HK := Lib.hid hk
   clear hk
   go_enter Tryz.func63, Tryz.ntmps63
   go_upto_region 1 with (fail)
   obtain ⟨W0, hW0⟩ : ∃ W0, W0 = w.alloc (.cells #[.int .u8 h.h.k, .int .u8 h.h.op, .int .i64 h.h.pl, .int .i64 h.h.n, .string h.h.name, .string h.h.arg, .string h.h.exn, .int .i64 h.rho, .slice v.ra h.rhos.length v.rc, .slice v.ea h.e.length v.ec, .int .u8 h.ty.h.k, .int .i64 h.ty.h.r, .slice v.tea h.ty.h.e.length v.tec, .slice v.tka h.ty.ks.length v.tkc, .int .u8 h.re.h.k, .int .i64 h.re.h.r, .slice v.sea h.re.h.e.length v.sec, .slice v.ska h.re.ks.length v.skc, .slice v.ka l v.kc] 31) := ⟨_, rfl⟩
   have hbx : Box W0 w.heap.size h v l := by rw [hW0]; exact box_of (w := w) (h := h) (v := v) (l := l)
   have hb0 : Below w.heap.size w W0 := by rw [hW0]; exact box_new _
   rw [← hW0]
   clear hW0
   generalize hN0 : w.heap.size = N0 at hbx ⊢
   have HB0 := Lib.hid hb0; have HBX := Lib.hid hbx
   obtain ⟨b0, b1, b2, b3, b4, b5, b6, b7, b8, b9, b10, b11, b12, b13, b14, b15, b16, b17, b18⟩ := hbx
   clear hb0 hN0 b1 b2 b3 b4 b5 b6 b7 b8 b10 b11 b12 b13 b14 b15 b16 b17 b18
   rw [HK.out] at b0
   go_wp2_with (fail)
   refine (HMAY.out W0 HB0.out).mono ?_
   rintro e w1 ⟨rfl, hb1⟩
   have HB1 := Lib.hid (below_then HB0.out hb1 HB0.out.size)
   clear hb1 b0 b9
   generalize decide (h.e = ofA h.e) = X at *
   go_wp2_with (fail)
   go_ret
   exact ⟨ret_bool HR.out.symm, HB1.out⟩
 ·rw [if_neg (by unfold effK; rw [decide_eq_false h1]; exact Bool.false_ne_true)] at hr
  have e11 := of_not (fun e => h1 (.inl e)); have e13 := of_not (fun e => h1 (.inr (.inl e))); have e18 := of_not (fun e => h1 (.inr (.inr e)))
  have hd : decide (h.e.length = 0) = ((h.e.length : Int) == 0) := by
   by_cases e : h.e.length = 0
   ·simp [e]
   ·have : ((h.e.length : Int) == 0) = false := by rw [beq_eq_false_iff_ne]; omega
    rw [this, decide_eq_false e]
  have HR := Lib.hid (hr.trans hd)
  clear hr hd h1
  go_enter Tryz.func63, Tryz.ntmps63
  go_upto_region 1 with (fail)
  obtain ⟨W0, hW0⟩ : ∃ W0, W0 = w.alloc (.cells #[.int .u8 h.h.k, .int .u8 h.h.op, .int .i64 h.h.pl, .int .i64 h.h.n, .string h.h.name, .string h.h.arg, .string h.h.exn, .int .i64 h.rho, .slice v.ra h.rhos.length v.rc, .slice v.ea h.e.length v.ec, .int .u8 h.ty.h.k, .int .i64 h.ty.h.r, .slice v.tea h.ty.h.e.length v.tec, .slice v.tka h.ty.ks.length v.tkc, .int .u8 h.re.h.k, .int .i64 h.re.h.r, .slice v.sea h.re.h.e.length v.sec, .slice v.ska h.re.ks.length v.skc, .slice v.ka l v.kc] 31) := ⟨_, rfl⟩
  have hbx : Box W0 w.heap.size h v l := by rw [hW0]; exact box_of (w := w) (h := h) (v := v) (l := l)
  have hb0 : Below w.heap.size w W0 := by rw [hW0]; exact box_new _
  rw [← hW0]
  clear hW0
  generalize hN0 : w.heap.size = N0 at hbx ⊢
  have HB0 := Lib.hid hb0; have HBX := Lib.hid hbx
  obtain ⟨b0, b1, b2, b3, b4, b5, b6, b7, b8, b9, b10, b11, b12, b13, b14, b15, b16, b17, b18⟩ := hbx
  clear hb0 hN0 b1 b2 b3 b4 b5 b6 b7 b8 b10 b11 b12 b13 b14 b15 b16 b17 b18
  go_wp2_with (fail)
  go_ret
  exact ⟨ret_bool HR.out.symm, HB0.out⟩

theorem allK_rt (B : Rt.Hd → Nat → Bool) (t : Rt.RT) : Rt.allK B [t] = Rt.allT B t := by rw [Rt.allK_cons, Rt.allK_nil, Bool.and_true]
theorem mayK_one (t : Rt.RT) : Rt.mayK [t] = Rt.mayT t := allK_rt _ t
set_option maxRecDepth 10000 in
set_option maxHeartbeats 3200000 in
theorem typeFits_walk (t : AT) (h : Hd) (v : V) (l : Nat) (w : World) (hT : AtIs w h v l t) (he : Rt.allT (Rt.effB 100000) h.ty = true) :
  Calls Tryz.prog 64 #[.agg #[.int .u8 h.h.k, .int .u8 h.h.op, .int .i64 h.h.pl, .int .i64 h.h.n, .string h.h.name, .string h.h.arg, .string h.h.exn, .int .i64 h.rho, .slice v.ra h.rhos.length v.rc, .slice v.ea h.e.length v.ec, .int .u8 h.ty.h.k, .int .i64 h.ty.h.r, .slice v.tea h.ty.h.e.length v.tec, .slice v.tka h.ty.ks.length v.tkc, .int .u8 h.re.h.k, .int .i64 h.re.h.r, .slice v.sea h.re.h.e.length v.sec, .slice v.ska h.re.ks.length v.skc, .slice v.ka l v.kc]] w fun e w' => e = .returned (.bool (typOk h)) ∧ Below w.heap.size w w' := by
 have hr : typOk h = if typK h.h.k = true then Rt.mayT h.ty else plainB h.ty := rfl
 have hty := hT.ok.ty
 have hmay := fun (W : World) (hb : Below w.heap.size w W) (N : Nat) (hN : N = W.heap.size) => Rt.may_walk [h.ty] (some ⟨N, 0, none⟩) 1 1 _ rfl Rt.one_le (Rt.kids_one (hty.below hb) 28 N hN) (by rw [allK_rt]; exact he)
 have hcap := Rt.cap63 hty
 have hnone := fun W => none_walk h.ty v.tea v.tec v.tka v.tkc W hcap.1 hcap.2
 have HMAY := Lib.hid hmay; have HNONE := Lib.hid hnone
 clear hT hmay hnone hcap hty he
 by_cases h1 : h.h.k = 11 ∨ h.h.k = 13 ∨ h.h.k = 15
 ·rw [if_pos (show typK h.h.k = true from decide_eq_true h1), ← mayK_one] at hr
  have HR := Lib.hid hr
  clear hr
  rcases h1 with hk | hk | hk
  all_goals
   have HK := Lib.hid hk
   clear hk
   go_enter Tryz.func64, Tryz.ntmps64
   go_upto_region 1 with (fail)
   obtain ⟨W0, hW0⟩ : ∃ W0, W0 = w.alloc (.cells #[.int .u8 h.h.k, .int .u8 h.h.op, .int .i64 h.h.pl, .int .i64 h.h.n, .string h.h.name, .string h.h.arg, .string h.h.exn, .int .i64 h.rho, .slice v.ra h.rhos.length v.rc, .slice v.ea h.e.length v.ec, .int .u8 h.ty.h.k, .int .i64 h.ty.h.r, .slice v.tea h.ty.h.e.length v.tec, .slice v.tka h.ty.ks.length v.tkc, .int .u8 h.re.h.k, .int .i64 h.re.h.r, .slice v.sea h.re.h.e.length v.sec, .slice v.ska h.re.ks.length v.skc, .slice v.ka l v.kc] 31) := ⟨_, rfl⟩
   have hbx : Box W0 w.heap.size h v l := by rw [hW0]; exact box_of (w := w) (h := h) (v := v) (l := l)
   have hb0 : Below w.heap.size w W0 := by rw [hW0]; exact box_new _
   rw [← hW0]
   clear hW0
   generalize hN0 : w.heap.size = N0 at hbx ⊢
   have HB0 := Lib.hid hb0; have HBX := Lib.hid hbx
   obtain ⟨b0, b1, b2, b3, b4, b5, b6, b7, b8, b9, b10, b11, b12, b13, b14, b15, b16, b17, b18⟩ := hbx
   clear hb0 hN0 b1 b2 b3 b4 b5 b6 b7 b8 b9 b14 b15 b16 b17 b18
   rw [HK.out] at b0
   go_wp2_with (fail)
   refine (HMAY.out W0 HB0.out _ rfl).mono ?_
   rintro e w1 ⟨rfl, hb1⟩
   have HB1 := Lib.hid (HB0.out.trans (((box_new _).trans (hb1.mono (by simp))).mono HB0.out.size))
   clear hb1 b0 b10 b11 b12 b13
   generalize Rt.mayK [h.ty] = X at *
   go_wp2_with (fail)
   go_ret
   exact ⟨ret_bool HR.out.symm, HB1.out⟩
 ·rw [if_neg (by unfold typK; rw [decide_eq_false h1]; exact Bool.false_ne_true)] at hr
  have e11 := of_not (fun e => h1 (.inl e)); have e13 := of_not (fun e => h1 (.inr (.inl e))); have e15 := of_not (fun e => h1 (.inr (.inr e)))
  have HR := Lib.hid hr
  clear hr h1
  go_enter Tryz.func64, Tryz.ntmps64
  go_upto_region 1 with (fail)
  obtain ⟨W0, hW0⟩ : ∃ W0, W0 = w.alloc (.cells #[.int .u8 h.h.k, .int .u8 h.h.op, .int .i64 h.h.pl, .int .i64 h.h.n, .string h.h.name, .string h.h.arg, .string h.h.exn, .int .i64 h.rho, .slice v.ra h.rhos.length v.rc, .slice v.ea h.e.length v.ec, .int .u8 h.ty.h.k, .int .i64 h.ty.h.r, .slice v.tea h.ty.h.e.length v.tec, .slice v.tka h.ty.ks.length v.tkc, .int .u8 h.re.h.k, .int .i64 h.re.h.r, .slice v.sea h.re.h.e.length v.sec, .slice v.ska h.re.ks.length v.skc, .slice v.ka l v.kc] 31) := ⟨_, rfl⟩
  have hbx : Box W0 w.heap.size h v l := by rw [hW0]; exact box_of (w := w) (h := h) (v := v) (l := l)
  have hb0 : Below w.heap.size w W0 := by rw [hW0]; exact box_new _
  rw [← hW0]
  clear hW0
  generalize hN0 : w.heap.size = N0 at hbx ⊢
  have HB0 := Lib.hid hb0; have HBX := Lib.hid hbx
  obtain ⟨b0, b1, b2, b3, b4, b5, b6, b7, b8, b9, b10, b11, b12, b13, b14, b15, b16, b17, b18⟩ := hbx
  clear hb0 hN0 b1 b2 b3 b4 b5 b6 b7 b8 b9 b14 b15 b16 b17 b18
  go_wp2_with (fail)
  refine (HNONE.out W0).mono ?_
  rintro e w1 ⟨rfl, hb1⟩
  have HB1 := Lib.hid (below_then HB0.out hb1 HB0.out.size)
  clear hb1 b0 b10 b11 b12 b13
  generalize plainB h.ty = X at *
  go_wp2_with (fail)
  go_ret
  exact ⟨ret_bool HR.out.symm, HB1.out⟩

set_option maxRecDepth 10000 in
set_option maxHeartbeats 3200000 in
theorem resFits_walk (t : AT) (h : Hd) (v : V) (l : Nat) (w : World) (hT : AtIs w h v l t) (he : Rt.allT (Rt.effB 100000) h.re = true) :
  Calls Tryz.prog 65 #[.agg #[.int .u8 h.h.k, .int .u8 h.h.op, .int .i64 h.h.pl, .int .i64 h.h.n, .string h.h.name, .string h.h.arg, .string h.h.exn, .int .i64 h.rho, .slice v.ra h.rhos.length v.rc, .slice v.ea h.e.length v.ec, .int .u8 h.ty.h.k, .int .i64 h.ty.h.r, .slice v.tea h.ty.h.e.length v.tec, .slice v.tka h.ty.ks.length v.tkc, .int .u8 h.re.h.k, .int .i64 h.re.h.r, .slice v.sea h.re.h.e.length v.sec, .slice v.ska h.re.ks.length v.skc, .slice v.ka l v.kc]] w fun e w' => e = .returned (.bool (resOk h)) ∧ Below w.heap.size w w' := by
 have hr : resOk h = if h.h.k = 13 then Rt.mayT h.re else plainB h.re := rfl
 have hty := hT.ok.re
 have hmay := fun (W : World) (hb : Below w.heap.size w W) (N : Nat) (hN : N = W.heap.size) => Rt.may_walk [h.re] (some ⟨N, 0, none⟩) 1 1 _ rfl Rt.one_le (Rt.kids_one (hty.below hb) 28 N hN) (by rw [allK_rt]; exact he)
 have hcap := Rt.cap63 hty
 have hnone := fun W => none_walk h.re v.sea v.sec v.ska v.skc W hcap.1 hcap.2
 have HMAY := Lib.hid hmay; have HNONE := Lib.hid hnone
 clear hT hmay hnone hcap hty he
 by_cases h1 : h.h.k = 13
 ·rw [if_pos h1, ← mayK_one] at hr
  have HR := Lib.hid hr
  clear hr
  iterate 1
   have HK := Lib.hid h1
   clear h1
   go_enter Tryz.func65, Tryz.ntmps65
   go_upto_region 1 with (fail)
   obtain ⟨W0, hW0⟩ : ∃ W0, W0 = w.alloc (.cells #[.int .u8 h.h.k, .int .u8 h.h.op, .int .i64 h.h.pl, .int .i64 h.h.n, .string h.h.name, .string h.h.arg, .string h.h.exn, .int .i64 h.rho, .slice v.ra h.rhos.length v.rc, .slice v.ea h.e.length v.ec, .int .u8 h.ty.h.k, .int .i64 h.ty.h.r, .slice v.tea h.ty.h.e.length v.tec, .slice v.tka h.ty.ks.length v.tkc, .int .u8 h.re.h.k, .int .i64 h.re.h.r, .slice v.sea h.re.h.e.length v.sec, .slice v.ska h.re.ks.length v.skc, .slice v.ka l v.kc] 31) := ⟨_, rfl⟩
   have hbx : Box W0 w.heap.size h v l := by rw [hW0]; exact box_of (w := w) (h := h) (v := v) (l := l)
   have hb0 : Below w.heap.size w W0 := by rw [hW0]; exact box_new _
   rw [← hW0]
   clear hW0
   generalize hN0 : w.heap.size = N0 at hbx ⊢
   have HB0 := Lib.hid hb0; have HBX := Lib.hid hbx
   obtain ⟨b0, b1, b2, b3, b4, b5, b6, b7, b8, b9, b10, b11, b12, b13, b14, b15, b16, b17, b18⟩ := hbx
   clear hb0 hN0 b1 b2 b3 b4 b5 b6 b7 b8 b9 b10 b11 b12 b13 b18
   rw [HK.out] at b0
   go_wp2_with (fail)
   refine (HMAY.out W0 HB0.out _ rfl).mono ?_
   rintro e w1 ⟨rfl, hb1⟩
   have HB1 := Lib.hid (HB0.out.trans (((box_new _).trans (hb1.mono (by simp))).mono HB0.out.size))
   clear hb1 b0 b14 b15 b16 b17
   generalize Rt.mayK [h.re] = X at *
   go_wp2_with (fail)
   go_ret
   exact ⟨ret_bool HR.out.symm, HB1.out⟩
 ·rw [if_neg h1] at hr
  have e13 := of_not h1
  have HR := Lib.hid hr
  clear hr h1
  go_enter Tryz.func65, Tryz.ntmps65
  go_upto_region 1 with (fail)
  obtain ⟨W0, hW0⟩ : ∃ W0, W0 = w.alloc (.cells #[.int .u8 h.h.k, .int .u8 h.h.op, .int .i64 h.h.pl, .int .i64 h.h.n, .string h.h.name, .string h.h.arg, .string h.h.exn, .int .i64 h.rho, .slice v.ra h.rhos.length v.rc, .slice v.ea h.e.length v.ec, .int .u8 h.ty.h.k, .int .i64 h.ty.h.r, .slice v.tea h.ty.h.e.length v.tec, .slice v.tka h.ty.ks.length v.tkc, .int .u8 h.re.h.k, .int .i64 h.re.h.r, .slice v.sea h.re.h.e.length v.sec, .slice v.ska h.re.ks.length v.skc, .slice v.ka l v.kc] 31) := ⟨_, rfl⟩
  have hbx : Box W0 w.heap.size h v l := by rw [hW0]; exact box_of (w := w) (h := h) (v := v) (l := l)
  have hb0 : Below w.heap.size w W0 := by rw [hW0]; exact box_new _
  rw [← hW0]
  clear hW0
  generalize hN0 : w.heap.size = N0 at hbx ⊢
  have HB0 := Lib.hid hb0; have HBX := Lib.hid hbx
  obtain ⟨b0, b1, b2, b3, b4, b5, b6, b7, b8, b9, b10, b11, b12, b13, b14, b15, b16, b17, b18⟩ := hbx
  clear hb0 hN0 b1 b2 b3 b4 b5 b6 b7 b8 b9 b10 b11 b12 b13 b18
  go_wp2_with (fail)
  refine (HNONE.out W0).mono ?_
  rintro e w1 ⟨rfl, hb1⟩
  have HB1 := Lib.hid (below_then HB0.out hb1 HB0.out.size)
  clear hb1 b0 b14 b15 b16 b17
  generalize plainB h.re = X at *
  go_wp2_with (fail)
  go_ret
  exact ⟨ret_bool HR.out.symm, HB1.out⟩
end Aterm
end Go.Proofs.YtkfkpjngiffamaaGreatDoor
namespace Go.Proofs.YtkfkpjngiffamaaGreatDoor
open Go.RowKit Go.Maps Go.ChangeMaps Go.MapKept
set_option linter.unusedVariables false
set_option linter.unusedSimpArgs false
namespace Aterm
open Effect (RdI nget nget_at nget_mem)
open Rt (box_new box_at below_then)

set_option maxRecDepth 10000 in
theorem binds_walk (t : AT) (h : Hd) (v : V) (l : Nat) (w0 w : World) (hT : AtIs w0 h v l t) (hb00 : Below w0.heap.size w0 w) :
  Calls Tryz.prog 103 #[.agg #[.int .u8 h.h.k, .int .u8 h.h.op, .int .i64 h.h.pl, .int .i64 h.h.n, .string h.h.name, .string h.h.arg, .string h.h.exn, .int .i64 h.rho, .slice v.ra h.rhos.length v.rc, .slice v.ea h.e.length v.ec, .int .u8 h.ty.h.k, .int .i64 h.ty.h.r, .slice v.tea h.ty.h.e.length v.tec, .slice v.tka h.ty.ks.length v.tkc, .int .u8 h.re.h.k, .int .i64 h.re.h.r, .slice v.sea h.re.h.e.length v.sec, .slice v.ska h.re.ks.length v.skc, .slice v.ka l v.kc]] w fun e w' => ∃ p n c, e = .returned (.slice p n c) ∧ n = (ownH h).length ∧ RdI w' n p (ownH h) ∧ Below w.heap.size w w' ∧ (RdI w0 n p (ownH h) ∨ ∀ b o, p = some ⟨b, o, none⟩ → w.heap.size ≤ b ∧ b < w'.heap.size) := by
 have hrho := hT.ok.rho
 have hrd0 := hT.ok.rhos
 have hrd := hrd0.below hb00
 have HD0 := Lib.hid hrd0
 clear hrd0 hb00
 have hk : ownH h = if h.h.k = 17 then [h.rho] else if h.h.k = 13 then h.rhos else [] := rfl
 have HR := Lib.hid hrho; have HD := Lib.hid hrd
 clear hT hrho hrd
 by_cases h1 : h.h.k = 17
 ·rw [if_pos h1] at hk
  rw [hk]
  have HK := Lib.hid h1
  clear hk h1
  go_enter Tryz.func103, Tryz.ntmps103
  go_upto_region 1 with (fail)
  obtain ⟨W0, hW0⟩ : ∃ W0, W0 = w.alloc (.cells #[.int .u8 h.h.k, .int .u8 h.h.op, .int .i64 h.h.pl, .int .i64 h.h.n, .string h.h.name, .string h.h.arg, .string h.h.exn, .int .i64 h.rho, .slice v.ra h.rhos.length v.rc, .slice v.ea h.e.length v.ec, .int .u8 h.ty.h.k, .int .i64 h.ty.h.r, .slice v.tea h.ty.h.e.length v.tec, .slice v.tka h.ty.ks.length v.tkc, .int .u8 h.re.h.k, .int .i64 h.re.h.r, .slice v.sea h.re.h.e.length v.sec, .slice v.ska h.re.ks.length v.skc, .slice v.ka l v.kc] 31) := ⟨_, rfl⟩
  have hbx : Box W0 w.heap.size h v l := by rw [hW0]; exact box_of (w := w) (h := h) (v := v) (l := l)
  have hb0 : Below w.heap.size w W0 := by rw [hW0]; exact box_new _
  rw [← hW0]
  clear hW0
  generalize hN0 : w.heap.size = N0 at hbx ⊢
  have HB0 := Lib.hid hb0; have HBX := Lib.hid hbx
  obtain ⟨b0, b1, b2, b3, b4, b5, b6, b7, b8, b9, b10, b11, b12, b13, b14, b15, b16, b17, b18⟩ := hbx
  clear hb0 hN0 b1 b2 b3 b4 b5 b6 b8 b9 b10 b11 b12 b13 b14 b15 b16 b17 b18
  rw [HK.out] at b0
  go_wp2_with (fail)
  go_ret
  exact ⟨_, _, _, rfl, rfl, rd_one rfl HR.out, HB0.out.trans ((box_new _).mono HB0.out.size), .inr (fun b o e => by injection e with e; injection e with e; subst e; exact ⟨HB0.out.size, by simp⟩)⟩
 ·rw [if_neg h1] at hk
  by_cases h2 : h.h.k = 13
  ·rw [if_pos h2] at hk
   rw [hk]
   have HK := Lib.hid h2
   clear hk h1 h2
   go_enter Tryz.func103, Tryz.ntmps103
   go_upto_region 1 with (fail)
   obtain ⟨W0, hW0⟩ : ∃ W0, W0 = w.alloc (.cells #[.int .u8 h.h.k, .int .u8 h.h.op, .int .i64 h.h.pl, .int .i64 h.h.n, .string h.h.name, .string h.h.arg, .string h.h.exn, .int .i64 h.rho, .slice v.ra h.rhos.length v.rc, .slice v.ea h.e.length v.ec, .int .u8 h.ty.h.k, .int .i64 h.ty.h.r, .slice v.tea h.ty.h.e.length v.tec, .slice v.tka h.ty.ks.length v.tkc, .int .u8 h.re.h.k, .int .i64 h.re.h.r, .slice v.sea h.re.h.e.length v.sec, .slice v.ska h.re.ks.length v.skc, .slice v.ka l v.kc] 31) := ⟨_, rfl⟩
   have hbx : Box W0 w.heap.size h v l := by rw [hW0]; exact box_of (w := w) (h := h) (v := v) (l := l)
   have hb0 : Below w.heap.size w W0 := by rw [hW0]; exact box_new _
   rw [← hW0]
   clear hW0
   generalize hN0 : w.heap.size = N0 at hbx ⊢
   have HB0 := Lib.hid hb0; have HBX := Lib.hid hbx
   obtain ⟨b0, b1, b2, b3, b4, b5, b6, b7, b8, b9, b10, b11, b12, b13, b14, b15, b16, b17, b18⟩ := hbx
   clear hb0 hN0 b1 b2 b3 b4 b5 b6 b7 b9 b10 b11 b12 b13 b14 b15 b16 b17 b18
   rw [HK.out] at b0
   go_wp2_with (fail)
   go_ret
   exact ⟨_, _, _, rfl, rfl, HD.out.below HB0.out, HB0.out, .inl HD0.out⟩
  ·rw [if_neg h2] at hk
   rw [hk]
   have H1 := Lib.hid h1; have H2 := Lib.hid h2
   clear hk h1 h2
   go_enter Tryz.func103, Tryz.ntmps103
   go_upto_region 1 with (fail)
   obtain ⟨W0, hW0⟩ : ∃ W0, W0 = w.alloc (.cells #[.int .u8 h.h.k, .int .u8 h.h.op, .int .i64 h.h.pl, .int .i64 h.h.n, .string h.h.name, .string h.h.arg, .string h.h.exn, .int .i64 h.rho, .slice v.ra h.rhos.length v.rc, .slice v.ea h.e.length v.ec, .int .u8 h.ty.h.k, .int .i64 h.ty.h.r, .slice v.tea h.ty.h.e.length v.tec, .slice v.tka h.ty.ks.length v.tkc, .int .u8 h.re.h.k, .int .i64 h.re.h.r, .slice v.sea h.re.h.e.length v.sec, .slice v.ska h.re.ks.length v.skc, .slice v.ka l v.kc] 31) := ⟨_, rfl⟩
   have hbx : Box W0 w.heap.size h v l := by rw [hW0]; exact box_of (w := w) (h := h) (v := v) (l := l)
   have hb0 : Below w.heap.size w W0 := by rw [hW0]; exact box_new _
   rw [← hW0]
   clear hW0
   generalize hN0 : w.heap.size = N0 at hbx ⊢
   have HB0 := Lib.hid hb0; have HBX := Lib.hid hbx
   obtain ⟨b0, b1, b2, b3, b4, b5, b6, b7, b8, b9, b10, b11, b12, b13, b14, b15, b16, b17, b18⟩ := hbx
   clear hb0 hN0 b1 b2 b3 b4 b5 b6 b7 b8 b9 b10 b11 b12 b13 b14 b15 b16 b17 b18
   have h1 := H1.out; have h2 := H2.out
   go_wp2_with (fail)
   go_ret
   exact ⟨_, _, _, rfl, rfl, rd_nil _ _, HB0.out, .inl (rd_nil _ _)⟩

def tokR (v : Value) : Option (DataW Value × List MemPlace) := some (.held v, [])
theorem tok_inj {v u : Value} {ps : List MemPlace} (h : tokR v = some (.held u, ps)) : v = u := by
 unfold tokR at h
 simp at h
 exact h.1
def I64 (x : Int) : Prop := -9223372036854775808 ≤ x ∧ x ≤ 9223372036854775807
theorem intKeyed : Keyed Tryz.prog 3 := int_keyed Tryz.underlying3
theorem key_of {x : Int} (h : I64 x) : keyOf Tryz.prog 3 (.int .i64 x) = some (Lit.int .i64 x) := keyOf_int_mk Tryz.underlying3 (WalkArith.wf_i64 h)
def SetAt (w : World) (b : Nat) (met : List Int) : Prop :=
 ∃ (n : Nat) (D : DataW Value), w.ownsMap Tryz.prog 3 tokR b n D ∧ n ≤ met.length ∧ ∀ x, I64 x → ∀ z, D.atKey (.int .i64 x) z = if x ∈ met then .held (.bool true) else z
theorem SetAt.new (w : World) : SetAt (w.alloc (.map #[] 0)) w.heap.size [] := ⟨0, _, World.ownsMap_made w _ _ _, Nat.le_refl _, fun x _ z => rfl⟩
theorem SetAt.lt {w : World} {b : Nat} {met : List Int} (h : SetAt w b met) : b < w.heap.size := by obtain ⟨_, D, h, _⟩ := h; exact h.lt
theorem SetAt.of_block {w w' : World} {b : Nat} {met : List Int} (h : SetAt w b met) (hb : w'.heap[b]? = w.heap[b]?) : SetAt w' b met := by
 obtain ⟨n, D, ⟨es, clock, h1, h2⟩, k⟩ := h
 exact ⟨n, D, ⟨es, clock, hb.trans h1, h2⟩, k⟩
theorem SetAt.below {w w' : World} {b : Nat} {met : List Int} (h : SetAt w b met) (hb : Below w.heap.size w w') : SetAt w' b met := h.of_block (hb.block b h.lt)
theorem zeroBool (w : World) : (zeroValue 4).run Tryz.prog w = .ok (.bool false) w := by kernel_rfl
theorem SetAt.look {w : World} {b : Nat} {met : List Int} (h : SetAt w b met) {x : Int} (hx : I64 x) :
  (Instr.lookup 138 (.map (some b)) (.int .i64 x) false).run Tryz.prog w = .ok (.bool (met.contains x)) w := by
 obtain ⟨n, D, h, _, k⟩ := h
 obtain ⟨v, ps, hrun, hv⟩ := h.lookup intKeyed Tryz.underlying138 (zeroBool w) (zd := .held (.bool false)) (zp := []) rfl (key_of hx)
 rw [k x hx] at hv
 rw [hrun]
 by_cases hm : x ∈ met
 ·rw [if_pos hm] at hv; rw [tok_inj hv]; simp [hm]
 ·rw [if_neg hm] at hv; rw [tok_inj hv]; simp [hm]
theorem SetAt.store {w : World} {b : Nat} {met : List Int} (h : SetAt w b met) (hn : met.length < maxLen) {x : Int} (hx : I64 x) :
  ∃ w', (Instr.mapUpdate 138 (.map (some b)) (.int .i64 x) (.bool true)).run Tryz.prog w = .ok () w' ∧ SetAt w' b (met ++ [x]) ∧ w.grownBy w' (some b) ∧ w'.heap.size = w.heap.size := by
 obtain ⟨n, D, h, hl, k⟩ := h
 obtain ⟨w', hrun, h', ht'⟩ := h.store intKeyed Tryz.underlying138 (Nat.lt_of_le_of_lt hl hn) (d := .held (.bool true)) (ps := []) (key_of hx) rfl
 refine ⟨w', hrun, ⟨n + 1, _, h', by simp; exact hl, fun y hy z => ?_⟩, ht'.grown, ?_⟩
 ·by_cases e : y = x
  ·subst e
   rw [atKey_put_same h.isMap (show WideAt.IsKeyLit (Lit.int .i64 y) from trivial), if_pos (by simp)]
  ·rw [atKey_put_other, k y hy z]
   ·simp [e]
   ·intro he
    exact e (Lit.int.inj he).2
 ·obtain ⟨es, clock, es', clock', _, rfl⟩ := ht'
  simp [setBlock]
set_option maxRecDepth 100000 in
theorem wpList_meet {w : World} {ops : Array Oper} {rest : List Oper} {a : Act} {Q : Exit → Act → World → Prop} {ps : String} {ty : TypeId} {af : Array Edge} {m x v : Operand} (b : Nat) (met : List Int) (y : Int)
  (hm : a.eval m = .map (some b)) (hx : a.eval x = .int .i64 y) (hv : a.eval v = .bool true) (h : SetAt w b met) (hn : met.length < maxLen) (hi : I64 y)
  (hK : ∀ w', SetAt w' b (met ++ [y]) → w.grownBy w' (some b) → w'.heap.size = w.heap.size → wpList Tryz.prog ops Q rest a w') :
  wpList Tryz.prog ops Q ({ dst := none, op := .mapUpdate 138 m x v, type := ty, pos := ps, after := af, guard := none } :: rest) a w := by
 refine wpList_plain rfl fun K' hK' => ?_
 obtain ⟨w', hrun, r1, r2, r3⟩ := h.store hn hi
 unfold Oper.wp
 clear h hn hi
 simp [execOp, hm, hx, hv, hrun, Result.andThen]
 exact hK' _ _ (hK w' r1 r2 r3)
end Aterm
end Go.Proofs.YtkfkpjngiffamaaGreatDoor
namespace Go.Proofs.YtkfkpjngiffamaaGreatDoor
open Go.RowKit
set_option linter.unusedVariables false
set_option linter.unusedSimpArgs false
namespace Aterm
open Rt (box_new box_at below_then)
open Effect (ret_bool ret_i64 lt_of_block heap_alloc_new)

set_option maxRecDepth 10000 in
set_option maxHeartbeats 6400000 in
theorem allApart_walk {σ : Type} (B : σ → AT → Bool) (S : σ → AT → σ) (C : Hd → Nat → Bool) (w0 : World) (P : Nat → Option Obj → Prop) (K0 K1 : Nat) (I : Nat → σ → World → Prop) (hI : Goes w0 P I) (hC : Steps 102 [.pointer (some ⟨K0, 0, none⟩), .pointer (some ⟨K1, 0, none⟩)] B S C w0 P I) :
  ∀ (m : Nat) (ts : List AT) (p : Option Addr) (l d r : Nat) (s : σ) (w : World), wts ts ≤ m → ts.length = l → l ≤ maxLen → (∀ W, Tch P w W → RowS w0 W p ts) → Below w0.heap.size w0 w → allK C ts = true → I (r + wts ts) s w →
  Calls Tryz.prog 43 #[.func (.func 102) #[] #[.pointer (some ⟨K0, 0, none⟩), .pointer (some ⟨K1, 0, none⟩)], .slice p l d] w (FoEnd P (I r) (foK B S ts s) w) := by
 have GI := Lib.hid hI; have GC := Lib.hid hC
 clear hI hC
 intro m
 induction m using Nat.strongRecOn with
 | _ m ih =>
  intro ts p l d r s w hm hl hlm hk hb00 hcc hi
  unfold maxLen at hlm
  have HM := Lib.hid hm; have HL := Lib.hid hl; have HK := Lib.hid hk; have HI := Lib.hid hi; have IH := Lib.hid ih; have HB00 := Lib.hid hb00; have HCC := Lib.hid hcc
  clear hm hl hk hi ih hb00 hcc
  go_enter Tryz.func43, Tryz.ntmps43
  go_wp2_with (fail)
  go_loopw [6, 9] (fun _ i wr => ∃ (j : Nat) (u : σ), j ≤ l ∧ i = .int .i64 j ∧ Hid (foK B S ts s = foK B S (ts.drop j) u) ∧ Hid (I (r + wts (ts.drop j)) u wr) ∧ Hid (Tch P w wr)) (fun _ i _ => l - (intOf i).toNat)
  case atStart => exact ⟨0, s, Nat.zero_le _, rfl, Lib.hid (by rw [List.drop_zero]), Lib.hid (by rw [List.drop_zero]; exact HI.out), Lib.hid (Tch.refl _)⟩
  case round =>
   obtain ⟨j, u, hj, rfl, HF, HJ, HS⟩ := hrel
   by_cases hlt : j < l
   ·have hjk : j < ts.length := by rw [HL.out]; exact hlt
    obtain ⟨b, o, v, rfl, hkid, hrg⟩ := HK.out wr HS.out j hjk
    have hbr : Below w0.heap.size w0 wr := HS.out.below GI.out.low HB00.out (Nat.le_refl _)
    have hcj := allK_get _ hjk HCC.out
    rw [allT_eq, Bool.and_eq_true] at hcj
    have hwd := wts_drop' ts j hjk
    have hwm : wts (tget ts j).ks < wts ts := by have h1 := wts_get hjk; have h2 := wt_ks (tget ts j); omega
    have hin : I ((r + wts (ts.drop (j + 1))) + wts (tget ts j).ks + 1) u wr := GI.out.less _ _ _ _ HJ.out (by omega)
    have hnew := GI.out.new _ _ _ HJ.out
    have HJK := Lib.hid hjk; have HKID := Lib.hid hkid; have HWM := Lib.hid hwm; have HIN := Lib.hid hin; have HRG := Lib.hid hrg; have HBR := Lib.hid hbr; have HCJ := Lib.hid hcj; have HNEW := Lib.hid hnew
    clear hjk hkid hwd hwm hin hrg hbr hcj hnew
    go_upto_region 4 with (first | refine at_load rfl _ rfl b (o + j * 19) rfl HRG.out ?_ | refine at_store rfl _ _ rfl _ rfl (tget ts j).h v (tget ts j).ks.length rfl rfl ?_)
    obtain ⟨W0, hW0⟩ : ∃ W0, W0 = wr.alloc (.cells #[.int .u8 (tget ts j).h.h.k, .int .u8 (tget ts j).h.h.op, .int .i64 (tget ts j).h.h.pl, .int .i64 (tget ts j).h.h.n, .string (tget ts j).h.h.name, .string (tget ts j).h.h.arg, .string (tget ts j).h.h.exn, .int .i64 (tget ts j).h.rho, .slice v.ra (tget ts j).h.rhos.length v.rc, .slice v.ea (tget ts j).h.e.length v.ec, .int .u8 (tget ts j).h.ty.h.k, .int .i64 (tget ts j).h.ty.h.r, .slice v.tea (tget ts j).h.ty.h.e.length v.tec, .slice v.tka (tget ts j).h.ty.ks.length v.tkc, .int .u8 (tget ts j).h.re.h.k, .int .i64 (tget ts j).h.re.h.r, .slice v.sea (tget ts j).h.re.h.e.length v.sec, .slice v.ska (tget ts j).h.re.ks.length v.skc, .slice v.ka (tget ts j).ks.length v.kc] 31) := ⟨_, rfl⟩
    have hbx : Box W0 wr.heap.size (tget ts j).h v (tget ts j).ks.length := by rw [hW0]; exact box_of (w := wr) (h := (tget ts j).h) (v := v) (l := (tget ts j).ks.length)
    have hb0 : Below wr.heap.size wr W0 := by rw [hW0]; exact box_new _
    have hnp : ¬ P wr.heap.size W0.heap[wr.heap.size]? := by
     rw [hW0, heap_alloc_new]
     exact HNEW.out _ _
    rw [← hW0]
    clear hW0
    have HSA := Lib.hid (HS.out.trans (Tch.of_below hb0))
    have HST := Lib.hid (GI.out.keep _ _ _ _ HIN.out hb0); have HBR0 := Lib.hid (below_then HBR.out hb0 HBR.out.size)
    generalize hN0 : wr.heap.size = N0 at hbx hnp ⊢
    have HNP := Lib.hid hnp; have HBX := Lib.hid hbx; have HRB := Lib.hid hbx.range
    clear hb0 hN0 hbx hnp
    go_wp2_with (refine at_load rfl _ rfl N0 0 rfl HRB.out ?_)
    refine (GC.out _ _ _ (tget ts j) (tget ts j).h v (tget ts j).ks.length HST.out HKID.out HCJ.out.1 HBR0.out).mono ?_
    rintro e w1 ⟨rfl, hi1, hs1⟩
    obtain ⟨b0, b1, b2, b3, b4, b5, b6, b7, b8, b9, b10, b11, b12, b13, b14, b15, b16, b17, b18⟩ := hs1.box HBX.out HNP.out
    clear b0 b1 b2 b3 b4 b5 b6 b7 b8 b9 b10 b11 b12 b13 b14 b15 b16 b17
    have HI1 := Lib.hid hi1
    have HS1 := Lib.hid (HSA.out.trans hs1)
    clear hi1 hs1
    cases hb : B u (tget ts j)
    ·have hno := foK_no B S HJK.out hb
     have hi2 := GI.out.less _ r _ _ HI1.out (by omega)
     have HNO := Lib.hid hno; have HB := Lib.hid hb; have HI2 := Lib.hid hi2
     clear hno hb hi2
     go_wp2_with (fail)
     go_ret
     exact ⟨ret_bool (by rw [HF.out, HNO.out]), by rw [HF.out, HNO.out]; exact HI2.out, HS1.out⟩
    ·have HB := Lib.hid hb
     clear hb
     go_wp2_with (fail)
     refine (IH.out (wts (tget ts j).ks) (by have := HWM.out; have := HM.out; omega) (tget ts j).ks v.ka _ v.kc (r + wts (ts.drop (j + 1))) _ _ (Nat.le_refl _) rfl (Nat.le_trans HKID.out.cap.1 HKID.out.cap.2) (fun W hW => rowS_kids HKID.out.kids ((HS1.out.trans hW).below GI.out.low HB00.out (Nat.le_refl _))) (HS1.out.below GI.out.low HB00.out (Nat.le_refl _)) HCJ.out.2 HI1.out).mono ?_
     rintro e w2 ⟨rfl, hi3, hs3⟩
     have HI3 := Lib.hid hi3
     have HS3 := Lib.hid (HS1.out.trans hs3)
     clear hi3 hs3 b18
     cases hk : (foK B S (tget ts j).ks (S u (tget ts j))).1
     ·have hno := foK_kno B S HJK.out HB.out hk
      have hi4 := GI.out.less _ r _ _ HI3.out (by omega)
      have HNO := Lib.hid hno; have HKB := Lib.hid hk; have HI4 := Lib.hid hi4
      clear hno hk hi4
      go_wp2_with (fail)
      go_ret
      exact ⟨ret_bool (by rw [HF.out, HNO.out]), by rw [HF.out, HNO.out]; exact HI4.out, HS3.out⟩
     ·have hyes := foK_yes B S HJK.out HB.out hk
      have HYES := Lib.hid hyes; have HKB := Lib.hid hk
      clear hyes hk
      go_wp2_with (fail)
      go_roundw
      case rel => exact ⟨j + 1, _, by omega, by go_num, Lib.hid (HF.out.trans HYES.out), HI3, HS3⟩
      case measure => simp [intOf]; omega
   ·obtain rfl : j = l := by omega
    have hr := HF.out
    have hi := HJ.out
    rw [List.drop_eq_nil_of_le (by rw [HL.out]; exact Nat.le_refl _)] at hr hi
    rw [foK_nil] at hr
    rw [wts_nil] at hi
    have HR := Lib.hid hr; have HI2 := Lib.hid hi
    clear hr hi
    go_wp2_with (fail)
    go_ret
    exact ⟨ret_bool (by rw [HR.out]), by rw [HR.out]; exact HI2.out, HS.out⟩
end Aterm
end Go.Proofs.YtkfkpjngiffamaaGreatDoor
namespace Go.Proofs.YtkfkpjngiffamaaGreatDoor
open Go.RowKit Go.Maps
set_option linter.unusedVariables false
set_option linter.unusedSimpArgs false
namespace Aterm
open Effect (RdI nget nget_at nget_mem ret_bool lt_of_block heap_alloc_new)
open Rt (box_new box_at below_then)

def ApP (Na M : Nat) (k : Nat) (_ : Option Obj) : Prop := k = Na ∨ k = M
structure ApAt (w0 : World) (Nm Na M : Nat) (s : List Int × Option Int) (W : World) : Prop where
 map : W.heap[Nm]? = some (.cells #[.map (some M)] 138 (0, 0))
 at_ : W.heap[Na]? = some (.cells #[.int .i64 (s.2.getD 0)] 3 (0, 0))
 set : SetAt W M s.1
 ne1 : Na ≠ M
 ne2 : Nm ≠ Na
 ne3 : Nm ≠ M
 low1 : w0.heap.size ≤ Na
 low2 : w0.heap.size ≤ M
theorem ApAt.below {w0 : World} {Nm Na M : Nat} {s : List Int × Option Int} {W W' : World} (h : ApAt w0 Nm Na M s W) (hb : Below W.heap.size W W') : ApAt w0 Nm Na M s W' :=
 ⟨(hb.block _ (lt_of_block h.map)).trans h.map, (hb.block _ (lt_of_block h.at_)).trans h.at_, h.set.below hb, h.ne1, h.ne2, h.ne3, h.low1, h.low2⟩
theorem ApAt.meet {w0 : World} {Nm Na M : Nat} {met : List Int} {x : Int} {o : Option Int} {W W' : World} (h : ApAt w0 Nm Na M (met, o) W) (hs : SetAt W' M (met ++ [x])) (hg : W.grownBy W' (some M)) : ApAt w0 Nm Na M (met ++ [x], o) W' :=
 ⟨(hg.block _ (lt_of_block h.map) (fun e => h.ne3 (Option.some.inj e))).trans h.map, (hg.block _ (lt_of_block h.at_) (fun e => h.ne1 (Option.some.inj e))).trans h.at_, hs, h.ne1, h.ne2, h.ne3, h.low1, h.low2⟩
theorem ApAt.again {w0 : World} {Nm Na M : Nat} {met : List Int} {o : Option Int} {W : World} (h : ApAt w0 Nm Na M (met, o) W) (pl : Int) : ApAt w0 Nm Na M (met, some pl) (W.setCell ⟨Na, 0, none⟩ (.int .i64 pl)) ∧ Tch (ApP Na M) W (W.setCell ⟨Na, 0, none⟩ (.int .i64 pl)) := by
 have ho : ∀ k, k ≠ Na → (W.setCell ⟨Na, 0, none⟩ (.int .i64 pl)).heap[k]? = W.heap[k]? := fun k hk => Below.heap_setCell _ _ _ _ hk
 refine ⟨⟨(ho _ h.ne2).trans h.map, ?_, h.set.of_block (ho _ (fun e => h.ne1 e.symm)), h.ne1, h.ne2, h.ne3, h.low1, h.low2⟩, ⟨rfl, rfl, rfl, by simp [World.setCell], fun k _ hn => ho k (fun e => hn (.inl e))⟩⟩
 simp [World.setCell, Array.getElem?_modify, h.at_]
theorem Tch.meets {Na M : Nat} {W W' : World} (hg : W.grownBy W' (some M)) : Tch (ApP Na M) W W' := ⟨hg.os, hg.tape, hg.output, hg.size, fun k hk hn => hg.block k hk (fun e => hn (.inr (Option.some.inj e)))⟩
def ApI (w0 : World) (Nm Na M : Nat) (r : Nat) (s : List Int × Option Int) (W : World) : Prop := ApAt w0 Nm Na M s W ∧ s.1.length + 100 * r ≤ 1000000000
def fewB (h : Hd) (_ : Nat) : Bool := decide (h.rhos.length ≤ 50)
theorem ApI.goes {w0 : World} {Nm Na M : Nat} (h1 : w0.heap.size ≤ Na) (h2 : w0.heap.size ≤ M) : Goes w0 (ApP Na M) (ApI w0 Nm Na M) where
 low := fun k O hk h => by rcases h with h | h <;> omega
 new := fun r s W h cs fz hp => by
  have e1 := lt_of_block h.1.at_
  have e2 := h.1.set.lt
  rcases hp with hp | hp <;> omega
 keep := fun r s W W' h hb => ⟨h.1.below hb, h.2⟩
 less := fun r r' s W h hr => ⟨h.1, by have := h.2; omega⟩
theorem own_few {h : Hd} {n : Nat} (hf : fewB h n = true) : (ownH h).length ≤ 50 := by
 have hf' : h.rhos.length ≤ 50 := of_decide_eq_true hf
 unfold ownH
 split
 ·simp
 ·split
  ·exact hf'
  ·simp
theorem metI_le : ∀ (xs met : List Int), (metI met xs).length ≤ met.length + xs.length
 | [], met => by rw [metI]; exact Nat.le_refl _
 | x :: xs, met => by
  rw [metI]
  split
  ·simp
  ·have := metI_le xs (met ++ [x])
   simp at this ⊢
   omega
theorem met_step {own : List Int} {j : Nat} (hj : j < own.length) : own.drop j = nget own j :: own.drop (j + 1) := by
 rw [List.drop_eq_getElem_cons hj]
 have := nget_at hj
 rw [List.getElem?_eq_getElem hj] at this
 rw [Option.some.inj this]

set_option maxRecDepth 10000 in
set_option maxHeartbeats 6400000 in
theorem apart1_walk (w0 : World) (Nm Na M : Nat) : Steps 102 [.pointer (some ⟨Nm, 0, none⟩), .pointer (some ⟨Na, 0, none⟩)] apB apS fewB w0 (ApP Na M) (ApI w0 Nm Na M) := by
 intro r s W t h v l hi hT hC hb0
 obtain ⟨hA, hlen⟩ := hi
 have hS : apS s t = (metI s.1 (ownH h), if metO s.1 (ownH h) = true then some h.h.pl else s.2) := by unfold apS; rw [hT.head]
 have hB : apB s t = !metO s.1 (ownH h) := by unfold apB; rw [hT.head]
 have hof := own_few hC
 have hml := metI_le (ownH h) s.1
 have hbw := fun (W' : World) (hb : Below W.heap.size W W') => binds_walk t h v l w0 W' hT (below_then hb0 hb hb0.size)
 have hpl := hT.ok.hd.pl
 have HS := Lib.hid hS; have HBB := Lib.hid hB; have HBW := Lib.hid hbw; have HA := Lib.hid hA; have HB00 := Lib.hid hb0; have HML := Lib.hid hml
 have hfin : ∀ s' W', ApAt w0 Nm Na M s' W' → s'.1.length ≤ (metI s.1 (ownH h)).length → ApI w0 Nm Na M r s' W' := fun s' W' h1 h2 => ⟨h1, by omega⟩
 have HFIN := Lib.hid hfin; have HOF := Lib.hid hof; have HLEN := Lib.hid hlen
 clear hS hB hbw hA hb0 hT hC hml hfin hof hlen
 show Calls Tryz.prog 102 #[.agg #[.int .u8 h.h.k, .int .u8 h.h.op, .int .i64 h.h.pl, .int .i64 h.h.n, .string h.h.name, .string h.h.arg, .string h.h.exn, .int .i64 h.rho, .slice v.ra h.rhos.length v.rc, .slice v.ea h.e.length v.ec, .int .u8 h.ty.h.k, .int .i64 h.ty.h.r, .slice v.tea h.ty.h.e.length v.tec, .slice v.tka h.ty.ks.length v.tkc, .int .u8 h.re.h.k, .int .i64 h.re.h.r, .slice v.sea h.re.h.e.length v.sec, .slice v.ska h.re.ks.length v.skc, .slice v.ka l v.kc], .pointer (some ⟨Nm, 0, none⟩), .pointer (some ⟨Na, 0, none⟩)] W _
 go_enter Tryz.func102, Tryz.ntmps102
 go_upto_region 1 with (fail)
 obtain ⟨W0, hW0⟩ : ∃ W0, W0 = W.alloc (.cells #[.int .u8 h.h.k, .int .u8 h.h.op, .int .i64 h.h.pl, .int .i64 h.h.n, .string h.h.name, .string h.h.arg, .string h.h.exn, .int .i64 h.rho, .slice v.ra h.rhos.length v.rc, .slice v.ea h.e.length v.ec, .int .u8 h.ty.h.k, .int .i64 h.ty.h.r, .slice v.tea h.ty.h.e.length v.tec, .slice v.tka h.ty.ks.length v.tkc, .int .u8 h.re.h.k, .int .i64 h.re.h.r, .slice v.sea h.re.h.e.length v.sec, .slice v.ska h.re.ks.length v.skc, .slice v.ka l v.kc] 31) := ⟨_, rfl⟩
 have hbx : Box W0 W.heap.size h v l := by rw [hW0]; exact box_of (w := W) (h := h) (v := v) (l := l)
 have hb0 : Below W.heap.size W W0 := by rw [hW0]; exact box_new _
 rw [← hW0]
 clear hW0
 generalize hN0 : W.heap.size = N0 at hbx ⊢
 have HB0 := Lib.hid hb0; have HBX := Lib.hid hbx; have HRG := Lib.hid hbx.range
 obtain ⟨b0, b1, b2, b3, b4, b5, b6, b7, b8, b9, b10, b11, b12, b13, b14, b15, b16, b17, b18⟩ := hbx
 clear hb0 b0 b1 b2 b3 b4 b5 b6 b7 b8 b9 b10 b11 b12 b13 b14 b15 b16 b17 b18
 have hne : ¬ ApP Na M N0 W0.heap[N0]? := by
  have e1 := lt_of_block HA.out.at_
  have e2 := HA.out.set.lt
  intro hp
  rcases hp with hp | hp <;> omega
 have HNE := Lib.hid hne; have HN0 := Lib.hid hN0
 clear hne hN0
 go_wp2_with (refine at_load rfl _ rfl N0 0 rfl HRG.out ?_)
 refine (HBW.out _ HB0.out).mono ?_
 rintro e w1 ⟨p, n, c, rfl, hn, hrd, hb1, hor⟩
 have hcell : ∀ W', Tch (ApP Na M) w1 W' → ∀ j, j < (ownH h).length → ∃ b o, p = some ⟨b, o, none⟩ ∧ W'.cell? ⟨b, o + j, none⟩ = some (.int .i64 (nget (ownH h) j)) := by
  intro W' hW j hj
  obtain ⟨b, o, hp, hc⟩ := hrd.get j hj
  refine ⟨b, o, hp, ?_⟩
  have hlt := World.block_lt_of_cell? w1 _ hc
  have hnp : ¬ ApP Na M b w1.heap[b]? := by
   have e1 := lt_of_block HA.out.at_
   have e2 := HA.out.set.lt
   have e3 := HA.out.low1
   have e4 := HA.out.low2
   have e5 := HB0.out.size
   intro hq
   have hbig : b < w0.heap.size ∨ W0.heap.size ≤ b := by
    rcases hor with h0 | h0
    ·obtain ⟨b', o', hp', hc'⟩ := h0.get j hj
     rw [hp] at hp'
     injection hp' with hp'
     injection hp' with e6 e7
     subst e6
     exact .inl (World.block_lt_of_cell? w0 _ hc')
    ·exact .inr (h0 b o hp).1
   have hsz : W.heap.size ≤ W0.heap.size := e5
   rcases hq with hq | hq <;> rcases hbig with hb | hb <;> omega
  rw [World.cell?_of_block (w := w1) (a := ⟨b, o + j, none⟩) (hW.block b hlt hnp)]
  exact hc
 have hA1 : ApAt w0 Nm Na M s w1 := (HA.out.below HB0.out).below hb1
 have hrx := hrd.ok
 have HCELL := Lib.hid hcell; have HA1 := Lib.hid hA1; have HB1 := Lib.hid hb1; have HNN := Lib.hid hn; have HRX := Lib.hid hrx
 have HNE1 := Lib.hid (show ¬ ApP Na M N0 w1.heap[N0]? from HNE.out)
 have hnb : n ≤ 50 := by have := HOF.out; omega
 clear hcell hA1 hb1 hrd hor hn hrx
 go_wp2_with (fail)
 go_loopw [6, 10] (fun _ i wr => ∃ (j : Nat) (met : List Int), j ≤ n ∧ i = .int .i64 j ∧ Hid (ApAt w0 Nm Na M (met, s.2) wr) ∧ Hid (metO s.1 (ownH h) = metO met ((ownH h).drop j)) ∧ Hid (metI s.1 (ownH h) = metI met ((ownH h).drop j)) ∧ Hid (Tch (ApP Na M) w1 wr)) (fun _ i _ => n - (intOf i).toNat)
 case atStart => exact ⟨0, s.1, Nat.zero_le _, rfl, HA1, Lib.hid (by rw [List.drop_zero]), Lib.hid (by rw [List.drop_zero]), Lib.hid (Tch.refl _)⟩
 case round =>
  obtain ⟨j, met, hj, rfl, HAR, HMO, HMI, HT⟩ := hrel
  have HWR := Lib.hid ((Tch.of_below (P := ApP Na M) HB0.out).trans ((Tch.of_below HB1.out).trans HT.out))
  by_cases hlt : j < n
  ·have hjo : j < (ownH h).length := by rw [← HNN.out]; exact hlt
   obtain ⟨b, o, rfl, hc⟩ := HCELL.out wr HT.out j hjo
   have hx := HRX.out _ (nget_mem hjo)
   have hdr := met_step hjo
   have hmo := HMO.out; have hmi := HMI.out
   rw [hdr] at hmo hmi
   rw [metO] at hmo
   rw [metI] at hmi
   have hmet := metI_le ((ownH h).drop (j + 1)) (met ++ [nget (ownH h) j])
   have hml2 : met.length < 1000000000 ∨ met.contains (nget (ownH h) j) = true := by
    by_cases hc : met.contains (nget (ownH h) j) = true
    ·exact .inr hc
    ·rw [if_neg hc] at hmi
     left
     have h1 := HML.out; have h2 := HLEN.out; have h3 := HOF.out
     have hge : ∀ (xs m : List Int), m.length ≤ (metI m xs).length := by
      intro xs
      induction xs with
      | nil => intro m; rw [metI]; exact Nat.le_refl _
      | cons x xs ih => intro m; rw [metI]; split
                        ·exact Nat.le_refl _
                        ·have := ih (m ++ [x]); simp at this; omega
     have h4 := hge ((ownH h).drop (j + 1)) (met ++ [nget (ownH h) j])
     rw [← hmi] at h4
     simp at h4
     omega
   generalize hX : nget (ownH h) j = X at *
   have hlk := HAR.out.set.look hx
   have cm : wr.cell? ⟨Nm, 0, none⟩ = some (.map (some M)) := by simp [World.cell?, HAR.out.map]
   have ca : wr.cell? ⟨Na, 0, none⟩ = some (.int .i64 (s.2.getD 0)) := by simp [World.cell?, HAR.out.at_]
   have fa : wr.frozen? ⟨Na, 0, none⟩ = false := by simp [World.frozen?, HAR.out.at_]
   have hbx2 := (HT.out.box (HBX.out.below HB1.out) HNE1.out)
   obtain ⟨b0, b1, b2, b3, b4, b5, b6, b7, b8, b9, b10, b11, b12, b13, b14, b15, b16, b17, b18⟩ := hbx2
   clear b0 b1 b3 b4 b5 b6 b7 b8 b9 b10 b11 b12 b13 b14 b15 b16 b17 b18
   cases hq : met.contains X
   ·rw [hq] at hlk hmo hmi
    rw [if_neg Bool.false_ne_true] at hmi
    rw [Bool.false_or] at hmo
    have hn1 : met.length < maxLen := by rcases hml2 with h | h
                                         ·unfold maxLen; omega
                                         ·rw [hq] at h; cases h
    have HQ := Lib.hid hq; have HMO2 := Lib.hid hmo; have HMI2 := Lib.hid hmi; have HXX := Lib.hid hx; have HN1 := Lib.hid hn1
    clear hq hmo hmi hx hdr hmet hml2 hn1 hX ca fa b2
    go_wp2_with (refine wpList_meet M met X rfl rfl rfl HAR.out.set HN1.out HXX.out ?_; intro w2 hs2 hg2 hz2; have HA2 := Lib.hid (HAR.out.meet hs2 hg2); have HT2 := Lib.hid (HT.out.trans (Tch.meets hg2)); clear hs2 hg2 hz2)
    go_roundw
    case rel => exact ⟨j + 1, met ++ [X], by omega, by go_num, HA2, Lib.hid (HMO.out.trans (by rw [HMO.out] at HMO2; exact HMO2.out)), Lib.hid HMI2.out, HT2⟩
    case measure => simp [intOf]; omega
   ·rw [hq] at hlk hmo hmi
    rw [if_pos rfl] at hmi
    rw [Bool.true_or] at hmo
    have HMO2 := Lib.hid hmo; have HMI2 := Lib.hid hmi
    clear hq hmo hmi hx hdr hmet hml2 hX
    go_wp2_with (fail)
    go_ret
    have hag := HAR.out.again h.h.pl
    refine ⟨ret_bool (by rw [HBB.out, HMO2.out]; rfl), ?_, HWR.out.trans hag.2⟩
    rw [HS.out, HMO2.out, HMI2.out, if_pos rfl]
    exact HFIN.out _ _ hag.1 (by rw [HMI2.out]; exact Nat.le_refl _)
  ·obtain rfl : j = n := by omega
   have hdr : (ownH h).drop j = [] := List.drop_eq_nil_of_le (by rw [← HNN.out]; exact Nat.le_refl _)
   have hmo := HMO.out; have hmi := HMI.out
   rw [hdr] at hmo hmi
   rw [metO] at hmo
   rw [metI] at hmi
   have HMO2 := Lib.hid hmo; have HMI2 := Lib.hid hmi
   clear hmo hmi hdr
   go_wp2_with (fail)
   go_ret
   refine ⟨ret_bool (by rw [HBB.out, HMO2.out]; rfl), ?_, HWR.out⟩
   rw [HS.out, HMO2.out, HMI2.out, if_neg Bool.false_ne_true]
   exact HFIN.out _ _ HAR.out (by rw [HMI2.out]; exact Nat.le_refl _)
end Aterm
end Go.Proofs.YtkfkpjngiffamaaGreatDoor
