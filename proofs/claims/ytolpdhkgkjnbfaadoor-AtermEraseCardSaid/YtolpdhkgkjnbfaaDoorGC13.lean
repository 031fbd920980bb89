/-The walk of the document's example. (Written by wip/tools/atawake.py.) The walk of the document's Erase. (Written by wip/tools/aterase2.py.) The walk of the document's sameness of terms. -/
import Derived.Test.YtolpdhkgkjnbfaaDoorGC12
import Derived.Test.YtolpdhkgkjnbfaaDoorGC11
import Derived.Test.YtolpdhkgkjnbfaaDoorGC08
import Derived.Deep.RegionHeld3
import Derived.StillTailTactics
namespace Go.Proofs.YtolpdhkgkjnbfaaDoor
open Go.RowKit
set_option linter.unusedVariables false
set_option linter.unusedSimpArgs false
namespace Aterm
open Effect (RdI nget nget_at nget_mem ret_bool ret_i64 lt_of_block heap_alloc_new ofA)
open Rt (box_new box_at below_then)

set_option maxRecDepth 100000 in
set_option maxHeartbeats 12800000 in
theorem awake_walk (w : World) (hkw : Words.KwLaid w) : Calls Tryd.prog 6 #[] w fun e w' => e = .returned (.bool true) ∧ Below w.heap.size w w' := by
  have HKW := Lib.hid hkw
  clear hkw
  go_enter Tryd.func6, Tryd.ntmps6
  go_upto_region 2 with (refine at_store rfl _ _ rfl _ rfl (exH 1 0) (exV none 0) 0 rfl rfl ?_)
  obtain ⟨W1, hW1⟩ : ∃ W1, W1 = w.alloc (.cells #[.int .u8 (exH 1 0).h.k, .int .u8 (exH 1 0).h.op, .int .i64 (exH 1 0).h.pl, .int .i64 (exH 1 0).h.n, .string (exH 1 0).h.name, .string (exH 1 0).h.arg, .string (exH 1 0).h.exn, .int .i64 (exH 1 0).rho, .slice (exV none 0).ra (exH 1 0).rhos.length (exV none 0).rc, .slice (exV none 0).ea (exH 1 0).e.length (exV none 0).ec, .int .u8 (exH 1 0).ty.h.k, .int .i64 (exH 1 0).ty.h.r, .slice (exV none 0).tea (exH 1 0).ty.h.e.length (exV none 0).tec, .slice (exV none 0).tka (exH 1 0).ty.ks.length (exV none 0).tkc, .int .u8 (exH 1 0).re.h.k, .int .i64 (exH 1 0).re.h.r, .slice (exV none 0).sea (exH 1 0).re.h.e.length (exV none 0).sec, .slice (exV none 0).ska (exH 1 0).re.ks.length (exV none 0).skc, .slice (exV none 0).ka 0 (exV none 0).kc] 33) := ⟨_, rfl⟩
  have hr1 : W1.rangeAt w.heap.size 0 (acells (exH 1 0) (exV none 0) 0) := by rw [hW1]; exact row_new rfl
  have hb1 : Below w.heap.size w W1 := by rw [hW1]; exact box_new _
  rw [← hW1]
  have HR1 := Lib.hid hr1; have HB1 := Lib.hid hb1
  clear hW1 hr1 hb1
  generalize hN1 : w.heap.size = N1 at HR1 ⊢
  have HN1 := Lib.hid hN1
  clear hN1
  go_upto_region 3 with (first | refine at_load rfl _ rfl N1 0 rfl HR1.out ?_ | refine at_store2 rfl _ _ rfl _ rfl (exH 3 1) (exV (some ⟨W1.heap.size, 0, none⟩) 2) 2 _ (by simp) rfl rfl ?_)
  refine of_world (F := fun V => Below W1.heap.size W1 V ∧ AtIs V (exH 3 1) (exV (some ⟨W1.heap.size, 0, none⟩) 2) 2 exP ∧ V.rangeAt (W1.heap.size + 1) 0 (acells (exH 3 1) (exV (some ⟨W1.heap.size, 0, none⟩) 2) 2))
    ⟨(box_new _).trans ((box_new _).mono (by simp)), (ex_is (k := 3) (rho := 1) (p := some ⟨W1.heap.size, 0, none⟩) (c := 2) (ts := [exN, exN]) (by decide) (by decide) ⟨Nat.le_refl _, by unfold maxLen; show 2 ≤ _; omega⟩ (kids_twice rfl)).below (box_new _), row_new (by simp)⟩ ?_
  rintro W2 ⟨hb2, hj2, hr2⟩
  have HR2 := Lib.hid hr2; have HJ2 := Lib.hid hj2; have HB2 := Lib.hid (below_then HB1.out hb2 HB1.out.size)
  clear hr2 hj2 hb2
  generalize hN2 : W1.heap.size + 1 = N2 at HR2 ⊢
  clear hN2
  go_upto_region 4 with (first | refine at_load rfl _ rfl N2 0 rfl HR2.out ?_ | refine at_store2 rfl _ _ rfl _ rfl (exH 4 0) (exV (some ⟨W2.heap.size, 0, none⟩) 1) 1 _ (by simp) rfl rfl ?_)
  refine of_world (F := fun V => Below W2.heap.size W2 V ∧ AtIs V (exH 4 0) (exV (some ⟨W2.heap.size, 0, none⟩) 1) 1 exF ∧ V.rangeAt (W2.heap.size + 1) 0 (acells (exH 4 0) (exV (some ⟨W2.heap.size, 0, none⟩) 1) 1))
    ⟨(box_new _).trans ((box_new _).mono (by simp)), (ex_is (k := 4) (rho := 0) (p := some ⟨W2.heap.size, 0, none⟩) (c := 1) (ts := [exP]) (by decide) (by decide) ⟨Nat.le_refl _, by unfold maxLen; show 1 ≤ _; omega⟩ (kids_new HJ2.out rfl)).below (box_new _), row_new (by simp)⟩ ?_
  rintro W3 ⟨hb3, hj3, hr3⟩
  have HR3 := Lib.hid hr3; have HJ3 := Lib.hid hj3; have HB3 := Lib.hid (below_then HB2.out hb3 HB2.out.size)
  clear hr3 hj3 hb3
  generalize hN3 : W2.heap.size + 1 = N3 at HR3 ⊢
  clear hN3
  go_upto_region 5 with (first | refine at_load rfl _ rfl N3 0 rfl HR3.out ?_ | refine at_store2 rfl _ _ rfl _ rfl (exH 17 1) (exV (some ⟨W3.heap.size, 0, none⟩) 1) 1 _ (by simp) rfl rfl ?_)
  refine of_world (F := fun V => Below W3.heap.size W3 V ∧ AtIs V (exH 17 1) (exV (some ⟨W3.heap.size, 0, none⟩) 1) 1 exT ∧ V.rangeAt (W3.heap.size + 1) 0 (acells (exH 17 1) (exV (some ⟨W3.heap.size, 0, none⟩) 1) 1))
    ⟨(box_new _).trans ((box_new _).mono (by simp)), (ex_is (k := 17) (rho := 1) (p := some ⟨W3.heap.size, 0, none⟩) (c := 1) (ts := [exF]) (by decide) (by decide) ⟨Nat.le_refl _, by unfold maxLen; show 1 ≤ _; omega⟩ (kids_new HJ3.out rfl)).below (box_new _), row_new (by simp)⟩ ?_
  rintro W4 ⟨hb4, hj4, hr4⟩
  have HR4 := Lib.hid hr4; have HJ4 := Lib.hid hj4; have HB4 := Lib.hid (below_then HB3.out hb4 HB3.out.size)
  clear hr4 hj4 hb4
  generalize hN4 : W3.heap.size + 1 = N4 at HR4 ⊢
  clear hN4
  have her : Calls Tryd.prog 17 #[.agg #[.int .u8 (exH 17 1).h.k, .int .u8 (exH 17 1).h.op, .int .i64 (exH 17 1).h.pl, .int .i64 (exH 17 1).h.n, .string (exH 17 1).h.name, .string (exH 17 1).h.arg, .string (exH 17 1).h.exn, .int .i64 (exH 17 1).rho, .slice (exV (some ⟨W3.heap.size, 0, none⟩) 1).ra (exH 17 1).rhos.length (exV (some ⟨W3.heap.size, 0, none⟩) 1).rc, .slice (exV (some ⟨W3.heap.size, 0, none⟩) 1).ea (exH 17 1).e.length (exV (some ⟨W3.heap.size, 0, none⟩) 1).ec, .int .u8 (exH 17 1).ty.h.k, .int .i64 (exH 17 1).ty.h.r, .slice (exV (some ⟨W3.heap.size, 0, none⟩) 1).tea (exH 17 1).ty.h.e.length (exV (some ⟨W3.heap.size, 0, none⟩) 1).tec, .slice (exV (some ⟨W3.heap.size, 0, none⟩) 1).tka (exH 17 1).ty.ks.length (exV (some ⟨W3.heap.size, 0, none⟩) 1).tkc, .int .u8 (exH 17 1).re.h.k, .int .i64 (exH 17 1).re.h.r, .slice (exV (some ⟨W3.heap.size, 0, none⟩) 1).sea (exH 17 1).re.h.e.length (exV (some ⟨W3.heap.size, 0, none⟩) 1).sec, .slice (exV (some ⟨W3.heap.size, 0, none⟩) 1).ska (exH 17 1).re.ks.length (exV (some ⟨W3.heap.size, 0, none⟩) 1).skc, .slice (exV (some ⟨W3.heap.size, 0, none⟩) 1).ka 1 (exV (some ⟨W3.heap.size, 0, none⟩) 1).kc]] W4 fun e w' => ∃ b o c, e = .returned (.agg #[.int .u8 4, .int .u8 0, .int .i64 0, .int .i64 0, .string ⟨#[]⟩, .string ⟨#[]⟩, .string ⟨#[]⟩, .slice (some ⟨b, o, none⟩) 1 c]) ∧ w'.cell? ⟨b, o, none⟩ = some (.int .u8 3) ∧ Below W4.heap.size W4 w' := by
    refine (erase_walk (wt exT) exT _ _ _ W4 (Nat.le_refl _) (by rw [wt_T]; omega) HJ4.out).mono ?_
    rintro e w' ⟨q, c, he, hT, hb⟩
    rw [erase_ex] at he hT
    obtain ⟨b, o, q', c', hq, -, hc, -⟩ := hT.kids.get 0 (by decide)
    subst hq
    exact ⟨b, o, c, he, by have := Term.veil_reads _ _ _ _ hc; rw [Nat.zero_mul, Nat.add_zero] at this; exact this, hb⟩
  have hmay := fun (W : World) (hb : Below W4.heap.size W4 W) => may_walk exT _ _ _ W (HJ4.out.below hb) (by rw [wt_T]; omega) small_ex (HKW.out.below (below_then HB4.out hb HB4.out.size))
  have h5 : wts [exT] = 5 := by rw [wts_cons, wts_nil, wt_T]
  have hsize := fun (W : World) (N : Nat) (hN : W.rangeAt N 0 (acells (exH 17 1) (exV (some ⟨W3.heap.size, 0, none⟩) 1) 1)) (hb : Below W4.heap.size W4 W) => size_walk [exT] (some ⟨N, 0, none⟩) 1 1 W4 W rfl Rt.one_le (fun W' hW' => row_one HJ4.out (range_below hN hW')) hb (by rw [h5]; omega) (by rw [allK_of1]; exact small_ex)
  rw [h5] at hsize
  rw [may_ex] at hmay
  have HER := Lib.hid her; have HMAY := Lib.hid hmay; have HSIZE := Lib.hid hsize
  clear her hmay hsize h5
  go_wp2_with (refine at_load rfl _ rfl N4 0 rfl HR4.out ?_)
  refine HER.out.mono ?_
  rintro e w5 ⟨b, o, c, rfl, hc, hb5⟩
  have hcE := heap_alloc_new w5 (.cells #[.int .u8 4, .int .u8 0, .int .i64 0, .int .i64 0, .string ⟨#[]⟩, .string ⟨#[]⟩, .string ⟨#[]⟩, .slice (some ⟨b, o, none⟩) 1 c] 44)
  have hb6 := box_new (w := w5) (.cells #[.int .u8 4, .int .u8 0, .int .i64 0, .int .i64 0, .string ⟨#[]⟩, .string ⟨#[]⟩, .string ⟨#[]⟩, .slice (some ⟨b, o, none⟩) 1 c] 44)
  go_upto_region 6 with (fail)
  generalize hW6 : w5.alloc (.cells #[.int .u8 4, .int .u8 0, .int .i64 0, .int .i64 0, .string ⟨#[]⟩, .string ⟨#[]⟩, .string ⟨#[]⟩, .slice (some ⟨b, o, none⟩) 1 c] 44) = W6 at hcE hb6 ⊢
  clear hW6
  generalize hN5 : w5.heap.size = N5 at hcE hb6 ⊢
  have HCE := Lib.hid hcE
  have HC := Lib.hid ((hb6.cell (p := ⟨b, o, none⟩) (by rw [← hN5]; exact World.block_lt_of_cell? w5 _ hc)).trans hc)
  have HB6 := Lib.hid (below_then hb5 (by rw [hN5]; exact hb6) hb5.size)
  have HR6 := Lib.hid (range_below HR4.out HB6.out)
  clear hcE hb6 hc hb5 hN5
  go_wp2_with (refine at_load rfl _ rfl N4 0 rfl HR6.out ?_)
  refine (HMAY.out W6 HB6.out).mono ?_
  rintro e w7 ⟨rfl, hb7⟩
  have HB7 := Lib.hid (below_then HB6.out hb7 HB6.out.size)
  have HCE7 := Lib.hid ((hb7.block _ (lt_of_block HCE.out)).trans HCE.out)
  have HC7 := Lib.hid ((hb7.cell (p := ⟨b, o, none⟩) (World.block_lt_of_cell? W6 _ HC.out)).trans HC.out)
  have HR7 := Lib.hid (range_below HR4.out HB7.out)
  clear hb7
  go_wp2_with (refine at_load_g (by rfl) _ rfl N4 0 rfl HR7.out ?_)
  refine (HSIZE.out _ w7.heap.size (row_new rfl) (below_then HB7.out (box_new _) HB7.out.size)).mono ?_
  rintro e w8 ⟨rfl, hb8⟩
  have hb9 := (box_new (w := w7) (.cells #[.int .u8 (exH 17 1).h.k, .int .u8 (exH 17 1).h.op, .int .i64 (exH 17 1).h.pl, .int .i64 (exH 17 1).h.n, .string (exH 17 1).h.name, .string (exH 17 1).h.arg, .string (exH 17 1).h.exn, .int .i64 (exH 17 1).rho, .slice (exV (some ⟨W3.heap.size, 0, none⟩) 1).ra (exH 17 1).rhos.length (exV (some ⟨W3.heap.size, 0, none⟩) 1).rc, .slice (exV (some ⟨W3.heap.size, 0, none⟩) 1).ea (exH 17 1).e.length (exV (some ⟨W3.heap.size, 0, none⟩) 1).ec, .int .u8 (exH 17 1).ty.h.k, .int .i64 (exH 17 1).ty.h.r, .slice (exV (some ⟨W3.heap.size, 0, none⟩) 1).tea (exH 17 1).ty.h.e.length (exV (some ⟨W3.heap.size, 0, none⟩) 1).tec, .slice (exV (some ⟨W3.heap.size, 0, none⟩) 1).tka (exH 17 1).ty.ks.length (exV (some ⟨W3.heap.size, 0, none⟩) 1).tkc, .int .u8 (exH 17 1).re.h.k, .int .i64 (exH 17 1).re.h.r, .slice (exV (some ⟨W3.heap.size, 0, none⟩) 1).sea (exH 17 1).re.h.e.length (exV (some ⟨W3.heap.size, 0, none⟩) 1).sec, .slice (exV (some ⟨W3.heap.size, 0, none⟩) 1).ska (exH 17 1).re.ks.length (exV (some ⟨W3.heap.size, 0, none⟩) 1).skc, .slice (exV (some ⟨W3.heap.size, 0, none⟩) 1).ka 1 (exV (some ⟨W3.heap.size, 0, none⟩) 1).kc] 33)).trans (hb8.mono (by simp))
  have hce8 := (hb9.block _ (lt_of_block HCE7.out)).trans HCE7.out
  have c0 : w8.cell? ⟨N5, 0, none⟩ = some (.int .u8 4) := by simp [World.cell?, hce8]
  have c7 : w8.cell? ⟨N5, 7, none⟩ = some (.slice (some ⟨b, o, none⟩) 1 c) := by simp [World.cell?, hce8]
  have cb : w8.cell? ⟨b, o, none⟩ = some (.int .u8 3) := (hb9.cell (p := ⟨b, o, none⟩) (World.block_lt_of_cell? w7 _ HC7.out)).trans HC7.out
  have HB8 := Lib.hid (below_then HB4.out (HB7.out.trans (hb9.mono HB7.out.size)) HB4.out.size)
  clear hb8 hb9 hce8
  go_wp2_with (fail)
  go_ret
  exact ⟨rfl, HB8.out⟩
end Aterm
end Go.Proofs.YtolpdhkgkjnbfaaDoor
namespace Go.Proofs.YtolpdhkgkjnbfaaDoor
open Go.RowKit
set_option linter.unusedVariables false
set_option linter.unusedSimpArgs false
namespace Aterm
open Effect (lt_of_block heap_alloc_new)
open Rt (box_new box_at below_then)
open Term (Tm TmIs Reads veil veil_to veil_at tcells)

set_option maxRecDepth 100000 in
set_option maxHeartbeats 12800000 in
theorem refErase_walk : ∀ (m : Nat) (t : AT) (h : Hd) (v : V) (l : Nat) (w : World), wt t ≤ m → wt t ≤ 100000 → AtIs w h v l t → Calls Tryd.prog 15 #[.agg #[.int .u8 h.h.k, .int .u8 h.h.op, .int .i64 h.h.pl, .int .i64 h.h.n, .string h.h.name, .string h.h.arg, .string h.h.exn, .int .i64 h.rho, .slice v.ra h.rhos.length v.rc, .slice v.ea h.e.length v.ec, .int .u8 h.ty.h.k, .int .i64 h.ty.h.r, .slice v.tea h.ty.h.e.length v.tec, .slice v.tka h.ty.ks.length v.tkc, .int .u8 h.re.h.k, .int .i64 h.re.h.r, .slice v.sea h.re.h.e.length v.sec, .slice v.ska h.re.ks.length v.skc, .slice v.ka l v.kc]] w (EraseEnd (eraseT t) w) := by
  intro m
  induction m with
  | zero => intro t h v l w hm; have := wt_pos t; omega
  | succ m ih =>
    intro t h v l w hm hmm hT
    have hwt := wt_ks t
    have hll : l ≤ 100000 := by have := wts_ge t.ks; rw [hT.len] at this; omega
    have hbox0 : ((w.alloc (.cells #[.int .u8 h.h.k, .int .u8 h.h.op, .int .i64 h.h.pl, .int .i64 h.h.n, .string h.h.name, .string h.h.arg, .string h.h.exn, .int .i64 h.rho, .slice v.ra h.rhos.length v.rc, .slice v.ea h.e.length v.ec, .int .u8 h.ty.h.k, .int .i64 h.ty.h.r, .slice v.tea h.ty.h.e.length v.tec, .slice v.tka h.ty.ks.length v.tkc, .int .u8 h.re.h.k, .int .i64 h.re.h.r, .slice v.sea h.re.h.e.length v.sec, .slice v.ska h.re.ks.length v.skc, .slice v.ka l v.kc] 33)).alloc (.cells #[.int .u8 0, .int .u8 0, .int .i64 0, .int .i64 0, .string ⟨#[]⟩, .string ⟨#[]⟩, .string ⟨#[]⟩, .slice none 0 0] 44)).heap[w.heap.size]? = some (.cells #[.int .u8 h.h.k, .int .u8 h.h.op, .int .i64 h.h.pl, .int .i64 h.h.n, .string h.h.name, .string h.h.arg, .string h.h.exn, .int .i64 h.rho, .slice v.ra h.rhos.length v.rc, .slice v.ea h.e.length v.ec, .int .u8 h.ty.h.k, .int .i64 h.ty.h.r, .slice v.tea h.ty.h.e.length v.tec, .slice v.tka h.ty.ks.length v.tkc, .int .u8 h.re.h.k, .int .i64 h.re.h.r, .slice v.sea h.re.h.e.length v.sec, .slice v.ska h.re.ks.length v.skc, .slice v.ka l v.kc] 33 (0, 0)) := ((box_new _).block _ (by simp)).trans (heap_alloc_new _ _)
    by_cases hr : h.h.k = 17 ∧ t.ks ≠ []
    · have hl0 : 0 < t.ks.length := by have := hr.2; cases hks : t.ks with
                                       | nil => exact absurd hks this
                                       | cons x xs => simp
      have her : eraseT t = eraseT (tget t.ks 0) := by
        cases hks : t.ks with
        | nil => exact absurd hks hr.2
        | cons x xs => exact eraseT_reg (by rw [hT.head]; exact hr.1) hks
      have hlp : decide ((0 : Int) < (l : Int)) = true := decide_eq_true (by rw [hT.len] at hl0; omega)
      have hli : (0 : Int) < (l : Int) := by rw [hT.len] at hl0; omega
      have hwk := wts_get hl0
      have HER := Lib.hid her; have HK := Lib.hid hr.1; have IH := Lib.hid ih; have HT := Lib.hid hT; have HM := Lib.hid (And.intro hm hmm); have HWT := Lib.hid hwt; have HL0 := Lib.hid hl0; have HWK := Lib.hid hwk; have HB9 := Lib.hid hbox0
      clear her hr ih hT hm hmm hwt hl0 hwk hbox0
      go_enter Tryd.func15, Tryd.ntmps15
      go_upto_region 1 with (fail)
      obtain ⟨W0, hW0⟩ : ∃ W0, W0 = (w.alloc (.cells #[.int .u8 h.h.k, .int .u8 h.h.op, .int .i64 h.h.pl, .int .i64 h.h.n, .string h.h.name, .string h.h.arg, .string h.h.exn, .int .i64 h.rho, .slice v.ra h.rhos.length v.rc, .slice v.ea h.e.length v.ec, .int .u8 h.ty.h.k, .int .i64 h.ty.h.r, .slice v.tea h.ty.h.e.length v.tec, .slice v.tka h.ty.ks.length v.tkc, .int .u8 h.re.h.k, .int .i64 h.re.h.r, .slice v.sea h.re.h.e.length v.sec, .slice v.ska h.re.ks.length v.skc, .slice v.ka l v.kc] 33)).alloc (.cells #[.int .u8 0, .int .u8 0, .int .i64 0, .int .i64 0, .string ⟨#[]⟩, .string ⟨#[]⟩, .string ⟨#[]⟩, .slice none 0 0] 44) := ⟨_, rfl⟩
      have hbk : W0.heap[w.heap.size]? = some (.cells #[.int .u8 h.h.k, .int .u8 h.h.op, .int .i64 h.h.pl, .int .i64 h.h.n, .string h.h.name, .string h.h.arg, .string h.h.exn, .int .i64 h.rho, .slice v.ra h.rhos.length v.rc, .slice v.ea h.e.length v.ec, .int .u8 h.ty.h.k, .int .i64 h.ty.h.r, .slice v.tea h.ty.h.e.length v.tec, .slice v.tka h.ty.ks.length v.tkc, .int .u8 h.re.h.k, .int .i64 h.re.h.r, .slice v.sea h.re.h.e.length v.sec, .slice v.ska h.re.ks.length v.skc, .slice v.ka l v.kc] 33 (0, 0)) := by rw [hW0]; exact HB9.out
      have hrs : W0.heap[w.heap.size + 1]? = some (.cells #[.int .u8 0, .int .u8 0, .int .i64 0, .int .i64 0, .string ⟨#[]⟩, .string ⟨#[]⟩, .string ⟨#[]⟩, .slice none 0 0] 44 (0, 0)) := by
        have := heap_alloc_new (w.alloc (.cells #[.int .u8 h.h.k, .int .u8 h.h.op, .int .i64 h.h.pl, .int .i64 h.h.n, .string h.h.name, .string h.h.arg, .string h.h.exn, .int .i64 h.rho, .slice v.ra h.rhos.length v.rc, .slice v.ea h.e.length v.ec, .int .u8 h.ty.h.k, .int .i64 h.ty.h.r, .slice v.tea h.ty.h.e.length v.tec, .slice v.tka h.ty.ks.length v.tkc, .int .u8 h.re.h.k, .int .i64 h.re.h.r, .slice v.sea h.re.h.e.length v.sec, .slice v.ska h.re.ks.length v.skc, .slice v.ka l v.kc] 33)) (.cells #[.int .u8 0, .int .u8 0, .int .i64 0, .int .i64 0, .string ⟨#[]⟩, .string ⟨#[]⟩, .string ⟨#[]⟩, .slice none 0 0] 44)
        rw [World.size_alloc] at this
        rw [hW0]; exact this
      have hsz : W0.heap.size = w.heap.size + 2 := by rw [hW0]; simp
      have hb0 : Below w.heap.size w W0 := by rw [hW0]; exact (box_new _).trans ((box_new _).mono (by simp))
      rw [← hW0]
      clear hW0
      have hbx := box_blk hbk
      have HB0 := Lib.hid hb0; have HRS := Lib.hid hrs; have HSZ := Lib.hid hsz
      obtain ⟨b0, b1, b2, b3, b4, b5, b6, b7, b8, b9, b10, b11, b12, b13, b14, b15, b16, b17, b18⟩ := hbx
      clear hb0 hrs hsz hbk b1 b2 b3 b4 b5 b6 b7 b8 b9 b10 b11 b12 b13 b14 b15 b16 b17
      rw [HK.out] at b0
      obtain ⟨b, o, v2, hp, hkid, hrg⟩ := (HT.out.kids.stay HB0.out).load 0 HL0.out
      rw [hp] at b18
      rw [Nat.zero_mul, Nat.add_zero] at hrg
      have HKID := Lib.hid hkid; have HRG := Lib.hid hrg
      clear hkid hrg hp
      generalize hN0 : w.heap.size = N0 at *
      have HN0 := Lib.hid hN0
      clear hN0
      go_wp2_with (refine at_load rfl _ rfl b o rfl HRG.out ?_)
      refine (IH.out (tget t.ks 0) _ v2 _ W0 (by have := HM.out.1; have := HWT.out; have := HWK.out; omega) (by have := HM.out.2; have := HWT.out; have := HWK.out; omega) HKID.out).mono ?_
      rintro e w2 ⟨q, c, rfl, hT2, hb2⟩
      have hrs2 := (hb2.block _ (by rw [HSZ.out]; omega)).trans HRS.out
      obtain ⟨⟨r0, r1, r2, r3, r4, r5, r6, r7⟩, g0, g1, g2, g3, g4, g5, g6, g7⟩ := cells8t hrs2
      have HT2 := Lib.hid hT2; have HB2 := Lib.hid hb2
      clear hT2 hb2 hrs2 b0 b18
      rw [HER.out]
      generalize hE : eraseT (tget t.ks 0) = E at *
      have HE := Lib.hid hE
      clear hE
      go_wp2_with (fail)
      refine bodyPost_ret (v := .agg #[.int .u8 E.h.k, .int .u8 E.h.op, .int .i64 E.h.pl, .int .i64 E.h.n, .string E.h.name, .string E.h.arg, .string E.h.exn, .slice q E.ks.length c]) (by simp [results, Tryd.results15, go_sem, r0, r1, r2, r3, r4, r5, r6, r7]) rfl ?_
      have h0 := HB0.out
      rw [← HN0.out] at h0 ⊢
      rw [HER.out]
      refine ⟨q, c, rfl, ?_, (h0.trans (HB2.out.mono h0.size)).trans (set8_below _ _ _ _ _ _ _ _ (by omega))⟩
      refine HT2.out.reads' (veil_to fun i hi hp => ?_)
      have hp' : W0.heap.size ≤ i := of_decide_eq_true hp
      rw [HSZ.out] at hp'
      exact ⟨decide_eq_true (by have := HN0.out; omega), set8_other _ _ _ _ _ _ _ _ _ _ (by have := HN0.out; omega)⟩
    have her : eraseT t = .node (bareH h) (eraseK t.ks) := by
      have := eraseT_no (t := t) (by rw [hT.head]; exact hr)
      rw [hT.head] at this
      exact this
    have hcase : ((h.h.k == 17) = true ∧ (h.h.k == 18) = false ∧ (bareH h).k = h.h.k ∧ decide (0 < l) = false) ∨ ((h.h.k == 17) = false ∧ (h.h.k == 18) = true ∧ (bareH h).k = 2 ∧ True) ∨ ((h.h.k == 17) = false ∧ (h.h.k == 18) = false ∧ (bareH h).k = h.h.k ∧ True) := by
      unfold bareH
      by_cases h17 : h.h.k = 17
      · left
        have hks : t.ks = [] := Classical.byContradiction fun hn => hr ⟨h17, hn⟩
        have hl : l = 0 := by rw [← hT.len, hks]; rfl
        rw [h17]
        exact ⟨by decide, by decide, by simp [h17], by rw [hl]; decide⟩
      · by_cases h18 : h.h.k = 18
        · exact .inr (.inl ⟨by simpa using h17, by simpa using h18, by simp [h18], trivial⟩)
        · exact .inr (.inr ⟨by simpa using h17, by simpa using h18, by simp [h18], trivial⟩)
    have hst := erase_start w h v l
    obtain ⟨i0, hi0, hz0, hz1, hz2⟩ := info_parts Term.infoTerm
    have HI0 := Lib.hid hi0; have HZ0 := Lib.hid hz0; have HZ1 := Lib.hid hz1; have HZ2 := Lib.hid hz2
    have HER := Lib.hid her; have IH := Lib.hid ih; have HT := Lib.hid hT; have HM := Lib.hid (And.intro hm hmm); have HWT := Lib.hid hwt; have HB9 := Lib.hid hbox0
    clear her hr ih hT hm hmm hwt hbox0 hi0 hz0 hz1 hz2
    rcases hcase with ⟨e17, e18, hbk, hl0⟩ | ⟨e17, e18, hbk, -⟩ | ⟨e17, e18, hbk, -⟩
    all_goals
      rw [hbk] at hst
      have HST := Lib.hid hst; have HBK := Lib.hid hbk
      clear hst hbk
      go_enter Tryd.func15, Tryd.ntmps15
      go_upto_region 1 with (fail)
      obtain ⟨W0, hW0⟩ : ∃ W0, W0 = (w.alloc (.cells #[.int .u8 h.h.k, .int .u8 h.h.op, .int .i64 h.h.pl, .int .i64 h.h.n, .string h.h.name, .string h.h.arg, .string h.h.exn, .int .i64 h.rho, .slice v.ra h.rhos.length v.rc, .slice v.ea h.e.length v.ec, .int .u8 h.ty.h.k, .int .i64 h.ty.h.r, .slice v.tea h.ty.h.e.length v.tec, .slice v.tka h.ty.ks.length v.tkc, .int .u8 h.re.h.k, .int .i64 h.re.h.r, .slice v.sea h.re.h.e.length v.sec, .slice v.ska h.re.ks.length v.skc, .slice v.ka l v.kc] 33)).alloc (.cells #[.int .u8 0, .int .u8 0, .int .i64 0, .int .i64 0, .string ⟨#[]⟩, .string ⟨#[]⟩, .string ⟨#[]⟩, .slice none 0 0] 44) := ⟨_, rfl⟩
      have hbk : W0.heap[w.heap.size]? = some (.cells #[.int .u8 h.h.k, .int .u8 h.h.op, .int .i64 h.h.pl, .int .i64 h.h.n, .string h.h.name, .string h.h.arg, .string h.h.exn, .int .i64 h.rho, .slice v.ra h.rhos.length v.rc, .slice v.ea h.e.length v.ec, .int .u8 h.ty.h.k, .int .i64 h.ty.h.r, .slice v.tea h.ty.h.e.length v.tec, .slice v.tka h.ty.ks.length v.tkc, .int .u8 h.re.h.k, .int .i64 h.re.h.r, .slice v.sea h.re.h.e.length v.sec, .slice v.ska h.re.ks.length v.skc, .slice v.ka l v.kc] 33 (0, 0)) := by rw [hW0]; exact HB9.out
      have hsz : W0.heap.size = w.heap.size + 2 := by rw [hW0]; simp
      rw [← hW0] at HST ⊢
      clear hW0
      have hbx := box_blk hbk
      obtain ⟨b0, b1, b2, b3, b4, b5, b6, b7, b8, b9, b10, b11, b12, b13, b14, b15, b16, b17, b18⟩ := hbx
      have hlt0 : w.heap.size < W0.heap.size := by omega
      have HSZ := Lib.hid hsz
      clear hbk hsz b7 b8 b9 b10 b11 b12 b13 b14 b15 b16 b17
      go_upto_region 6 with (fail)
      generalize hW3 : W0.alloc _ = W3 at HST ⊢
      rw [HSZ.out]
      clear hW3
      have hb3 := box_blk HST.out.box
      obtain ⟨b0, b1, b2, b3, b4, b5, b6, b7, b8, b9, b10, b11, b12, b13, b14, b15, b16, b17, b18⟩ := hb3
      clear b0 b1 b2 b3 b4 b5 b6 b7 b8 b9 b10 b11 b12 b13 b14 b15 b16 b17
      go_wp2_with (fail)
      clear b18
      go_loopw [4, 32] (fun _ i wr => ∃ (j : Nat) (a : Option Addr) (c0 : Nat), j ≤ l ∧ i = .int .i64 j ∧ Hid (EraseAt w h v l (eraseK (t.ks.take j)) j a c0 wr)) (fun _ i _ => l - (intOf i).toNat)
      case atStart => exact ⟨0, none, 0, Nat.zero_le _, rfl, Lib.hid (by rw [List.take_zero, eraseK_nil]; exact HST.out)⟩
      case round =>
        obtain ⟨j, a, c0, hj, rfl, HA⟩ := hrel
        by_cases hlt : j < l
        · have hjk : j < t.ks.length := by rw [HT.out.len]; exact hlt
          obtain ⟨bb, o, v2, hp, hkid, hrg⟩ := HT.out.kids.load j hjk
          have hwk := wts_get hjk
          have htk : eraseK (t.ks.take (j + 1)) = eraseK (t.ks.take j) ++ [eraseT (tget t.ks j)] := by rw [take_tget t.ks j hjk, eraseK_map, eraseK_map, List.map_append]; rfl
          have hm1 : wt (tget t.ks j) ≤ m := by have := HM.out.1; have := HWT.out; omega
          have hm2 : wt (tget t.ks j) ≤ 100000 := by have := HM.out.2; have := HWT.out; omega
          have hl2 := lt_of_block HA.out.out
          have hout := HA.out.out
          have o7 : wr.cell? ⟨w.heap.size + 2, 7, none⟩ = some (.slice a j c0) := by simp [World.cell?, hout]
          have hrow := HA.out.row
          have j0 : (0 : Int) ≤ (j : Int) := by omega
          have j1 : (j : Int) < (l : Int) := by omega
          have HL2 := Lib.hid hl2; have HOUT := Lib.hid hout; have HROW := Lib.hid hrow
          clear hl2 hout hrow hwk
          have HRG := Lib.hid hrg
          have HKID := Lib.hid (hkid.below HA.out.below)
          obtain ⟨u, hu⟩ : ∃ u, u = eraseT (tget t.ks j) := ⟨_, rfl⟩
          rw [← hu] at htk
          have HTK := Lib.hid htk; have HU := Lib.hid hu
          clear hrg hkid htk hu hjk
          go_upto_region 9 with (fail)
          have hn1 := HA.out.box
          have hbw := Below.refl wr.heap.size wr
          have q7 := o7
          have hcall := IH.out (tget t.ks j) (tget t.ks j).h v2 (tget t.ks j).ks.length wr.drew hm1 hm2 (HKID.out.below (hbw.trans (Below.refl _ _).drew))
          rw [← HU.out] at hcall
          have HCALL := Lib.hid hcall; have HBW := Lib.hid hbw; have HN1 := Lib.hid hn1; have HQ7 := Lib.hid q7
          clear hcall o7 hbw
          refine wp_region_held_drew (S := fun (V : World) => Below w.heap.size w V ∧ V.heap[w.heap.size]? = some (.cells #[.int .u8 h.h.k, .int .u8 h.h.op, .int .i64 h.h.pl, .int .i64 h.h.n, .string h.h.name, .string h.h.arg, .string h.h.exn, .int .i64 h.rho, .slice v.ra h.rhos.length v.rc, .slice v.ea h.e.length v.ec, .int .u8 h.ty.h.k, .int .i64 h.ty.h.r, .slice v.tea h.ty.h.e.length v.tec, .slice v.tka h.ty.ks.length v.tkc, .int .u8 h.re.h.k, .int .i64 h.re.h.r, .slice v.sea h.re.h.e.length v.sec, .slice v.ska h.re.ks.length v.skc, .slice v.ka l v.kc] 33 (0, 0))) (by kernel_rfl) ⟨HA.out.below.drew, HN1.out⟩ (fun hHeld => ?_)
          refine wpAnyH_take (i := 0) (v := .pointer (some ⟨w.heap.size + 2, 7, none⟩)) rfl (by kernel_rfl) (by kernel_rfl) (by kernel_rfl) (fun _ _ _ h => h) (Or.inl ⟨by rfl, ?_⟩) (by assumption) ?_
          · intro w' hSw
            first | (go_simp; done) | (go_simp; intro h0; omega) | rfl
          try simp only [Act.put, List.getElem_toArray, List.getElem_cons_succ, List.getElem_cons_zero, List.setIfInBounds_toArray, List.set_cons_zero, List.set_cons_succ]
          refine wpAnyH_take (i := 2) (v := .pointer (some ⟨w.heap.size, 18, none⟩)) rfl (by kernel_rfl) (by kernel_rfl) (by kernel_rfl) (fun _ _ _ h => h) (Or.inl ⟨by rfl, ?_⟩) (by assumption) ?_
          · intro w' hSw
            first | (go_simp; done) | (go_simp; intro h0; omega) | rfl
          try simp only [Act.put, List.getElem_toArray, List.getElem_cons_succ, List.getElem_cons_zero, List.setIfInBounds_toArray, List.set_cons_zero, List.set_cons_succ]
          refine wpAnyH_take (i := 3) (v := .slice (some ⟨bb, o, none⟩) l v.kc) rfl (by kernel_rfl) (by kernel_rfl) (by kernel_rfl) (fun _ _ _ h => h) (Or.inl ⟨by rfl, ?_⟩) (by assumption) ?_
          · intro w' hSw
            obtain ⟨b0, b1, b2, b3, b4, b5, b6, b7, b8, b9, b10, b11, b12, b13, b14, b15, b16, b17, b18⟩ := box_blk hSw.2
            rw [hp] at b18
            first | (go_simp; done) | rfl
          try simp only [Act.put, List.getElem_toArray, List.getElem_cons_succ, List.getElem_cons_zero, List.setIfInBounds_toArray, List.set_cons_zero, List.set_cons_succ]
          refine wpAnyH_take (i := 4) (v := .int .i64 j) rfl (by kernel_rfl) (by kernel_rfl) (by kernel_rfl) (fun _ _ _ h => h) (Or.inl ⟨by rfl, ?_⟩) (by assumption) ?_
          · intro w' hSw
            first | (go_simp; done) | (go_simp; intro h0; omega) | rfl
          try simp only [Act.put, List.getElem_toArray, List.getElem_cons_succ, List.getElem_cons_zero, List.setIfInBounds_toArray, List.set_cons_zero, List.set_cons_succ]
          refine wpAnyH_take (i := 5) (v := .pointer (some ⟨bb, o + j * 19, none⟩)) rfl (by kernel_rfl) (by kernel_rfl) (by kernel_rfl) (fun _ _ _ h => h) (Or.inl ⟨by rfl, ?_⟩) (by assumption) ?_
          · intro w' hSw
            first | (go_simp; done) | (go_simp; intro h0; omega) | rfl
          try simp only [Act.put, List.getElem_toArray, List.getElem_cons_succ, List.getElem_cons_zero, List.setIfInBounds_toArray, List.set_cons_zero, List.set_cons_succ]
          refine wpAnyH_take (i := 6) (v := .agg #[.int .u8 (tget t.ks j).h.h.k, .int .u8 (tget t.ks j).h.h.op, .int .i64 (tget t.ks j).h.h.pl, .int .i64 (tget t.ks j).h.h.n, .string (tget t.ks j).h.h.name, .string (tget t.ks j).h.h.arg, .string (tget t.ks j).h.h.exn, .int .i64 (tget t.ks j).h.rho, .slice v2.ra (tget t.ks j).h.rhos.length v2.rc, .slice v2.ea (tget t.ks j).h.e.length v2.ec, .int .u8 (tget t.ks j).h.ty.h.k, .int .i64 (tget t.ks j).h.ty.h.r, .slice v2.tea (tget t.ks j).h.ty.h.e.length v2.tec, .slice v2.tka (tget t.ks j).h.ty.ks.length v2.tkc, .int .u8 (tget t.ks j).h.re.h.k, .int .i64 (tget t.ks j).h.re.h.r, .slice v2.sea (tget t.ks j).h.re.h.e.length v2.sec, .slice v2.ska (tget t.ks j).h.re.ks.length v2.skc, .slice v2.ka (tget t.ks j).ks.length v2.kc]) rfl (by kernel_rfl) (by kernel_rfl) (by kernel_rfl) (fun _ _ _ h => h) (Or.inl ⟨by rfl, ?_⟩) (by assumption) ?_
          · intro w' hSw
            exact exec_at _ rfl bb (o + j * 19) rfl (range_below HRG.out hSw.1)
          try simp only [Act.put, List.getElem_toArray, List.getElem_cons_succ, List.getElem_cons_zero, List.setIfInBounds_toArray, List.set_cons_zero, List.set_cons_succ]
          refine wpAnyH_ready (rs := [1, 7]) (by kernel_rfl) (by simp) ?_
          refine AllReadyH.cons rfl (fun K hK => ?_) (AllReadyH.cons rfl (fun K hK => ?_) AllReadyH.nil)
          · have HK2 := Lib.hid hK
            clear hK
            try rw [if_pos (by rfl)]
            go_simp
            refine HK2.out _ _ ⟨HA.out.below.drew, HN1.out⟩ (fun hHeld => ?_)
            clear HK2
            try simp only [Act.put, List.getElem_toArray, List.getElem_cons_succ, List.getElem_cons_zero, List.setIfInBounds_toArray, List.set_cons_zero, List.set_cons_succ]
            clear K
            refine wpAnyH_ready (rs := [7]) (by kernel_rfl) (by simp) ?_
            refine AllReadyH.cons rfl (fun K hK => ?_) AllReadyH.nil
            have HK2 := Lib.hid hK
            clear hK
            try rw [if_pos (by rfl)]
            go_simp
            refine HCALL.out.mono ?_
            rintro en w2 ⟨q2, c2, rfl, hT2, hb2d⟩
            have hb2x := undrew' hb2d
            have hb2 : Below wr.heap.size wr w2 := below_then HBW.out hb2x HBW.out.size
            have hm2' : wr.heap.size ≤ wr.drew.heap.size := HBW.out.size
            have HT2 := Lib.hid hT2; have HB2 := Lib.hid hb2; have HM2 := Lib.hid hm2'
            clear hT2 hb2d hm2'
            refine HK2.out _ _ ⟨below_then HA.out.below HB2.out HA.out.below.size, (HB2.out.block _ (lt_of_block HN1.out)).trans HN1.out⟩ (fun hHeld => ?_)
            clear HK2
            try simp only [Act.put, List.getElem_toArray, List.getElem_cons_succ, List.getElem_cons_zero, List.setIfInBounds_toArray, List.set_cons_zero, List.set_cons_succ]
            clear K
            refine wpAnyH_ready (rs := [8]) (by kernel_rfl) (by simp) ?_
            refine AllReadyH.cons rfl (fun K hK => ?_) AllReadyH.nil
            have HK2 := Lib.hid hK
            clear hK
            have hz2 : w2.heap.size = w2.heap.size := rfl
            try rw [if_pos (by rfl)]
            go_simp
            refine HK2.out _ _ ⟨below_then HA.out.below (HB2.out.alloc HB2.out.size _) HA.out.below.size, ((HB2.out.alloc HB2.out.size _).block _ (lt_of_block HN1.out)).trans HN1.out⟩ (fun hHeld => ?_)
            clear HK2
            try simp only [Act.put, List.getElem_toArray, List.getElem_cons_succ, List.getElem_cons_zero, List.setIfInBounds_toArray, List.set_cons_zero, List.set_cons_succ]
            clear K
            refine wpAnyH_ready (rs := [9]) (by kernel_rfl) (by simp) ?_
            refine AllReadyH.cons rfl (fun K hK => ?_) AllReadyH.nil
            have HK2 := Lib.hid hK
            clear hK
            obtain ⟨xs, hown, hflat⟩ := HROW.out
            have hown' : wr.ownsRow (w.heap.size + 3) 44 8 (.slice a j c0) j xs := by rw [HA.out.len] at hown; exact hown
            have hr1 : (w2.alloc (.cells #[.int .u8 u.h.k, .int .u8 u.h.op, .int .i64 u.h.pl, .int .i64 u.h.n, .string u.h.name, .string u.h.arg, .string u.h.exn, .slice q2 u.ks.length c2] 44)).ownsRow (w.heap.size + 3) 44 8 (.slice a j c0) j xs := own_below hown' (HB2.out.alloc HB2.out.size _)
            have hr2 : Term.Flat (veil (seen (w.heap.size + 3) (.slice a j c0)) (w2.alloc (.cells #[.int .u8 u.h.k, .int .u8 u.h.op, .int .i64 u.h.pl, .int .i64 u.h.n, .string u.h.name, .string u.h.arg, .string u.h.exn, .slice q2 u.ks.length c2] 44))) xs (eraseK (t.ks.take j)) := hflat.reads (veil_to fun b hbl hp => ⟨hp, (HB2.out.alloc HB2.out.size _).block b hbl⟩)
            refine step_append_lies _ (by rfl) _ _ _ (by rfl) (w.heap.size + 3) 44 i0 _ 8 96 Tryd.underlying42 HI0.out HZ0.out HZ1.out HZ2.out rfl (by omega) (.slice a j c0) j xs (by rfl) hr1 ⟨w2.heap.size, 0, none⟩ 1 1 (tcells u.h q2 u.ks.length c2) (by rfl) (by rfl) (new8 rfl) (cells_one8 _ _ _ _) (by omega) (by unfold maxLen; omega) (by omega) (by have := HB2.out.size; have := HL2.out; simp; omega) (w2.heap.size + 1) (by simp) ?_
            intro gg cap w3 hown3 hgrow3 hat3 hlt3
            obtain ⟨⟨s0, s1⟩, s2, s3, s4, s5⟩ := erase_step HA.out HB2.out hr1 hr2 HT2.out HM2.out hown3 hgrow3 (told_of hat3)
            have HS2 := Lib.hid s2; have HS3 := Lib.hid s3; have HS4 := Lib.hid s4; have HS5 := Lib.hid s5
            clear hown hflat hown' hr1 hr2 hown3 hgrow3 hat3 hlt3 s2 s3 s4 s5
            refine HK2.out _ _ ⟨HS3.out, (HS4.out _ (by omega)).trans HN1.out⟩ (fun hHeld => ?_)
            clear HK2
            try simp only [Act.put, List.getElem_toArray, List.getElem_cons_succ, List.getElem_cons_zero, List.setIfInBounds_toArray, List.set_cons_zero, List.set_cons_succ]
            clear K
            refine wpAnyH_ready (rs := [10]) (by kernel_rfl) (by simp) ?_
            refine AllReadyH.cons rfl (fun K hK => ?_) AllReadyH.nil
            have HK2 := Lib.hid hK
            clear hK
            try rw [if_pos (by rfl)]
            go_simp
            refine HK2.out _ _ ⟨HS3.out, (HS4.out _ (by omega)).trans HN1.out⟩ (fun hHeld => ?_)
            clear HK2
            try simp only [Act.put, List.getElem_toArray, List.getElem_cons_succ, List.getElem_cons_zero, List.setIfInBounds_toArray, List.set_cons_zero, List.set_cons_succ]
            clear K
            refine wpAnyH_ready (rs := [11]) (by kernel_rfl) (by simp) ?_
            refine AllReadyH.cons rfl (fun K hK => ?_) AllReadyH.nil
            have HK2 := Lib.hid hK
            clear hK
            try rw [if_pos (by rfl)]
            go_simp
            refine HK2.out _ _ ⟨HS2.out.below, HS2.out.box⟩ (fun hHeld => ?_)
            clear HK2
            try simp only [Act.put, List.getElem_toArray, List.getElem_cons_succ, List.getElem_cons_zero, List.setIfInBounds_toArray, List.set_cons_zero, List.set_cons_succ]
            clear K
            refine wpAnyH_done (by kernel_rfl) ?_ _
            clear hHeld
            go_wp2_with (fail)
            go_roundw
            case rel => first | exact ⟨j + 1, some ⟨gg, 0, none⟩, cap, by omega, by go_num, Lib.hid (by rw [HTK.out]; exact HS2.out)⟩ | exact ⟨j + 1, by omega, by go_num, some ⟨gg, 0, none⟩, cap, Lib.hid (by rw [HTK.out]; exact HS2.out)⟩
            case measure => simp [intOf]; omega
          · have HK2 := Lib.hid hK
            clear hK
            try rw [if_pos (by rfl)]
            go_simp
            refine HCALL.out.mono ?_
            rintro en w2 ⟨q2, c2, rfl, hT2, hb2d⟩
            have hb2x := undrew' hb2d
            have hb2 : Below wr.heap.size wr w2 := below_then HBW.out hb2x HBW.out.size
            have hm2' : wr.heap.size ≤ wr.drew.heap.size := HBW.out.size
            have HT2 := Lib.hid hT2; have HB2 := Lib.hid hb2; have HM2 := Lib.hid hm2'
            clear hT2 hb2d hm2'
            refine HK2.out _ _ ⟨below_then HA.out.below HB2.out HA.out.below.size, (HB2.out.block _ (lt_of_block HN1.out)).trans HN1.out⟩ (fun hHeld => ?_)
            clear HK2
            try simp only [Act.put, List.getElem_toArray, List.getElem_cons_succ, List.getElem_cons_zero, List.setIfInBounds_toArray, List.set_cons_zero, List.set_cons_succ]
            clear K
            have q8 : w2.cell? ⟨w.heap.size + 2, 7, none⟩ = some (.slice a j c0) := by have := (HB2.out.block _ HL2.out).trans HOUT.out; simp [World.cell?, this]
            have q9 : w.heap.size + 2 < w2.heap.size := by have := HB2.out.size; have := HL2.out; omega
            refine wpAnyH_ready (rs := [1, 8]) (by kernel_rfl) (by simp) ?_
            refine AllReadyH.cons rfl (fun K hK => ?_) (AllReadyH.cons rfl (fun K hK => ?_) AllReadyH.nil)
            · have HK2 := Lib.hid hK
              clear hK
              try rw [if_pos (by rfl)]
              go_simp
              refine HK2.out _ _ ⟨below_then HA.out.below HB2.out HA.out.below.size, (HB2.out.block _ (lt_of_block HN1.out)).trans HN1.out⟩ (fun hHeld => ?_)
              clear HK2
              try simp only [Act.put, List.getElem_toArray, List.getElem_cons_succ, List.getElem_cons_zero, List.setIfInBounds_toArray, List.set_cons_zero, List.set_cons_succ]
              clear K
              refine wpAnyH_ready (rs := [8]) (by kernel_rfl) (by simp) ?_
              refine AllReadyH.cons rfl (fun K hK => ?_) AllReadyH.nil
              have HK2 := Lib.hid hK
              clear hK
              have hz2 : w2.heap.size = w2.heap.size := rfl
              try rw [if_pos (by rfl)]
              go_simp
              refine HK2.out _ _ ⟨below_then HA.out.below (HB2.out.alloc HB2.out.size _) HA.out.below.size, ((HB2.out.alloc HB2.out.size _).block _ (lt_of_block HN1.out)).trans HN1.out⟩ (fun hHeld => ?_)
              clear HK2
              try simp only [Act.put, List.getElem_toArray, List.getElem_cons_succ, List.getElem_cons_zero, List.setIfInBounds_toArray, List.set_cons_zero, List.set_cons_succ]
              clear K
              refine wpAnyH_ready (rs := [9]) (by kernel_rfl) (by simp) ?_
              refine AllReadyH.cons rfl (fun K hK => ?_) AllReadyH.nil
              have HK2 := Lib.hid hK
              clear hK
              obtain ⟨xs, hown, hflat⟩ := HROW.out
              have hown' : wr.ownsRow (w.heap.size + 3) 44 8 (.slice a j c0) j xs := by rw [HA.out.len] at hown; exact hown
              have hr1 : (w2.alloc (.cells #[.int .u8 u.h.k, .int .u8 u.h.op, .int .i64 u.h.pl, .int .i64 u.h.n, .string u.h.name, .string u.h.arg, .string u.h.exn, .slice q2 u.ks.length c2] 44)).ownsRow (w.heap.size + 3) 44 8 (.slice a j c0) j xs := own_below hown' (HB2.out.alloc HB2.out.size _)
              have hr2 : Term.Flat (veil (seen (w.heap.size + 3) (.slice a j c0)) (w2.alloc (.cells #[.int .u8 u.h.k, .int .u8 u.h.op, .int .i64 u.h.pl, .int .i64 u.h.n, .string u.h.name, .string u.h.arg, .string u.h.exn, .slice q2 u.ks.length c2] 44))) xs (eraseK (t.ks.take j)) := hflat.reads (veil_to fun b hbl hp => ⟨hp, (HB2.out.alloc HB2.out.size _).block b hbl⟩)
              refine step_append_lies _ (by rfl) _ _ _ (by rfl) (w.heap.size + 3) 44 i0 _ 8 96 Tryd.underlying42 HI0.out HZ0.out HZ1.out HZ2.out rfl (by omega) (.slice a j c0) j xs (by rfl) hr1 ⟨w2.heap.size, 0, none⟩ 1 1 (tcells u.h q2 u.ks.length c2) (by rfl) (by rfl) (new8 rfl) (cells_one8 _ _ _ _) (by omega) (by unfold maxLen; omega) (by omega) (by have := HB2.out.size; have := HL2.out; simp; omega) (w2.heap.size + 1) (by simp) ?_
              intro gg cap w3 hown3 hgrow3 hat3 hlt3
              obtain ⟨⟨s0, s1⟩, s2, s3, s4, s5⟩ := erase_step HA.out HB2.out hr1 hr2 HT2.out HM2.out hown3 hgrow3 (told_of hat3)
              have HS2 := Lib.hid s2; have HS3 := Lib.hid s3; have HS4 := Lib.hid s4; have HS5 := Lib.hid s5
              clear hown hflat hown' hr1 hr2 hown3 hgrow3 hat3 hlt3 s2 s3 s4 s5
              refine HK2.out _ _ ⟨HS3.out, (HS4.out _ (by omega)).trans HN1.out⟩ (fun hHeld => ?_)
              clear HK2
              try simp only [Act.put, List.getElem_toArray, List.getElem_cons_succ, List.getElem_cons_zero, List.setIfInBounds_toArray, List.set_cons_zero, List.set_cons_succ]
              clear K
              refine wpAnyH_ready (rs := [10]) (by kernel_rfl) (by simp) ?_
              refine AllReadyH.cons rfl (fun K hK => ?_) AllReadyH.nil
              have HK2 := Lib.hid hK
              clear hK
              try rw [if_pos (by rfl)]
              go_simp
              refine HK2.out _ _ ⟨HS3.out, (HS4.out _ (by omega)).trans HN1.out⟩ (fun hHeld => ?_)
              clear HK2
              try simp only [Act.put, List.getElem_toArray, List.getElem_cons_succ, List.getElem_cons_zero, List.setIfInBounds_toArray, List.set_cons_zero, List.set_cons_succ]
              clear K
              refine wpAnyH_ready (rs := [11]) (by kernel_rfl) (by simp) ?_
              refine AllReadyH.cons rfl (fun K hK => ?_) AllReadyH.nil
              have HK2 := Lib.hid hK
              clear hK
              try rw [if_pos (by rfl)]
              go_simp
              refine HK2.out _ _ ⟨HS2.out.below, HS2.out.box⟩ (fun hHeld => ?_)
              clear HK2
              try simp only [Act.put, List.getElem_toArray, List.getElem_cons_succ, List.getElem_cons_zero, List.setIfInBounds_toArray, List.set_cons_zero, List.set_cons_succ]
              clear K
              refine wpAnyH_done (by kernel_rfl) ?_ _
              clear hHeld
              go_wp2_with (fail)
              go_roundw
              case rel => first | exact ⟨j + 1, some ⟨gg, 0, none⟩, cap, by omega, by go_num, Lib.hid (by rw [HTK.out]; exact HS2.out)⟩ | exact ⟨j + 1, by omega, by go_num, some ⟨gg, 0, none⟩, cap, Lib.hid (by rw [HTK.out]; exact HS2.out)⟩
              case measure => simp [intOf]; omega
            · have HK2 := Lib.hid hK
              clear hK
              have hz2 : w2.heap.size = w2.heap.size := rfl
              try rw [if_pos (by rfl)]
              go_simp
              refine HK2.out _ _ ⟨below_then HA.out.below (HB2.out.alloc HB2.out.size _) HA.out.below.size, ((HB2.out.alloc HB2.out.size _).block _ (lt_of_block HN1.out)).trans HN1.out⟩ (fun hHeld => ?_)
              clear HK2
              try simp only [Act.put, List.getElem_toArray, List.getElem_cons_succ, List.getElem_cons_zero, List.setIfInBounds_toArray, List.set_cons_zero, List.set_cons_succ]
              clear K
              refine wpAnyH_ready (rs := [1]) (by kernel_rfl) (by simp) ?_
              refine AllReadyH.cons rfl (fun K hK => ?_) AllReadyH.nil
              have HK2 := Lib.hid hK
              clear hK
              try rw [if_pos (by rfl)]
              go_simp
              refine HK2.out _ _ ⟨below_then HA.out.below (HB2.out.alloc HB2.out.size _) HA.out.below.size, ((HB2.out.alloc HB2.out.size _).block _ (lt_of_block HN1.out)).trans HN1.out⟩ (fun hHeld => ?_)
              clear HK2
              try simp only [Act.put, List.getElem_toArray, List.getElem_cons_succ, List.getElem_cons_zero, List.setIfInBounds_toArray, List.set_cons_zero, List.set_cons_succ]
              clear K
              refine wpAnyH_ready (rs := [9]) (by kernel_rfl) (by simp) ?_
              refine AllReadyH.cons rfl (fun K hK => ?_) AllReadyH.nil
              have HK2 := Lib.hid hK
              clear hK
              obtain ⟨xs, hown, hflat⟩ := HROW.out
              have hown' : wr.ownsRow (w.heap.size + 3) 44 8 (.slice a j c0) j xs := by rw [HA.out.len] at hown; exact hown
              have hr1 : (w2.alloc (.cells #[.int .u8 u.h.k, .int .u8 u.h.op, .int .i64 u.h.pl, .int .i64 u.h.n, .string u.h.name, .string u.h.arg, .string u.h.exn, .slice q2 u.ks.length c2] 44)).ownsRow (w.heap.size + 3) 44 8 (.slice a j c0) j xs := own_below hown' (HB2.out.alloc HB2.out.size _)
              have hr2 : Term.Flat (veil (seen (w.heap.size + 3) (.slice a j c0)) (w2.alloc (.cells #[.int .u8 u.h.k, .int .u8 u.h.op, .int .i64 u.h.pl, .int .i64 u.h.n, .string u.h.name, .string u.h.arg, .string u.h.exn, .slice q2 u.ks.length c2] 44))) xs (eraseK (t.ks.take j)) := hflat.reads (veil_to fun b hbl hp => ⟨hp, (HB2.out.alloc HB2.out.size _).block b hbl⟩)
              refine step_append_lies _ (by rfl) _ _ _ (by rfl) (w.heap.size + 3) 44 i0 _ 8 96 Tryd.underlying42 HI0.out HZ0.out HZ1.out HZ2.out rfl (by omega) (.slice a j c0) j xs (by rfl) hr1 ⟨w2.heap.size, 0, none⟩ 1 1 (tcells u.h q2 u.ks.length c2) (by rfl) (by rfl) (new8 rfl) (cells_one8 _ _ _ _) (by omega) (by unfold maxLen; omega) (by omega) (by have := HB2.out.size; have := HL2.out; simp; omega) (w2.heap.size + 1) (by simp) ?_
              intro gg cap w3 hown3 hgrow3 hat3 hlt3
              obtain ⟨⟨s0, s1⟩, s2, s3, s4, s5⟩ := erase_step HA.out HB2.out hr1 hr2 HT2.out HM2.out hown3 hgrow3 (told_of hat3)
              have HS2 := Lib.hid s2; have HS3 := Lib.hid s3; have HS4 := Lib.hid s4; have HS5 := Lib.hid s5
              clear hown hflat hown' hr1 hr2 hown3 hgrow3 hat3 hlt3 s2 s3 s4 s5
              refine HK2.out _ _ ⟨HS3.out, (HS4.out _ (by omega)).trans HN1.out⟩ (fun hHeld => ?_)
              clear HK2
              try simp only [Act.put, List.getElem_toArray, List.getElem_cons_succ, List.getElem_cons_zero, List.setIfInBounds_toArray, List.set_cons_zero, List.set_cons_succ]
              clear K
              refine wpAnyH_ready (rs := [10]) (by kernel_rfl) (by simp) ?_
              refine AllReadyH.cons rfl (fun K hK => ?_) AllReadyH.nil
              have HK2 := Lib.hid hK
              clear hK
              try rw [if_pos (by rfl)]
              go_simp
              refine HK2.out _ _ ⟨HS3.out, (HS4.out _ (by omega)).trans HN1.out⟩ (fun hHeld => ?_)
              clear HK2
              try simp only [Act.put, List.getElem_toArray, List.getElem_cons_succ, List.getElem_cons_zero, List.setIfInBounds_toArray, List.set_cons_zero, List.set_cons_succ]
              clear K
              refine wpAnyH_ready (rs := [11]) (by kernel_rfl) (by simp) ?_
              refine AllReadyH.cons rfl (fun K hK => ?_) AllReadyH.nil
              have HK2 := Lib.hid hK
              clear hK
              try rw [if_pos (by rfl)]
              go_simp
              refine HK2.out _ _ ⟨HS2.out.below, HS2.out.box⟩ (fun hHeld => ?_)
              clear HK2
              try simp only [Act.put, List.getElem_toArray, List.getElem_cons_succ, List.getElem_cons_zero, List.setIfInBounds_toArray, List.set_cons_zero, List.set_cons_succ]
              clear K
              refine wpAnyH_done (by kernel_rfl) ?_ _
              clear hHeld
              go_wp2_with (fail)
              go_roundw
              case rel => first | exact ⟨j + 1, some ⟨gg, 0, none⟩, cap, by omega, by go_num, Lib.hid (by rw [HTK.out]; exact HS2.out)⟩ | exact ⟨j + 1, by omega, by go_num, some ⟨gg, 0, none⟩, cap, Lib.hid (by rw [HTK.out]; exact HS2.out)⟩
              case measure => simp [intOf]; omega
        · obtain rfl : j = l := by omega
          have hk := List.take_of_length_le (l := t.ks) (i := j) (by rw [HT.out.len]; exact Nat.le_refl _)
          have HKK := Lib.hid hk
          have ha := HA.out
          obtain ⟨⟨o0, o1, o2, o3, o4, o5, o6, o7⟩, -⟩ := cells8t ha.out
          obtain ⟨⟨r0, r1, r2, r3, r4, r5, r6, r7⟩, g0, g1, g2, g3, g4, g5, g6, g7⟩ := cells8t ha.res
          clear hk ha
          go_wp2_with (fail)
          refine bodyPost_ret (v := .agg #[.int .u8 (bareH h).k, .int .u8 h.h.op, .int .i64 h.h.pl, .int .i64 h.h.n, .string h.h.name, .string h.h.arg, .string h.h.exn, .slice a j c0]) (by simp [results, Tryd.results15, go_sem, r0, r1, r2, r3, r4, r5, r6, r7]) rfl ?_
          have ha := HA.out
          rw [HKK.out] at ha
          rw [HER.out]
          exact erase_end HT.out.ok.hd ha (fun b hb => set8_other _ _ _ _ _ _ _ _ _ _ hb) (ha.below.trans ((set8_below _ _ _ _ _ _ _ _ (Nat.le_refl _)).mono (by omega)))
end Aterm
end Go.Proofs.YtolpdhkgkjnbfaaDoor
namespace Go.Proofs.YtolpdhkgkjnbfaaDoor
open Go.RowKit
set_option linter.unusedVariables false
namespace Term
open Words (str_no str_yes)

set_option maxRecDepth 100000 in
set_option maxHeartbeats 6400000 in
theorem refSame_walk : ∀ (m : Nat) (t u : Tm) (h h' : Hd) (p p' : Option Addr) (l c l' c' : Nat) (w : World), wt t ≤ m → TmIs w h p l c t → TmIs w h' p' l' c' u →
    Calls Tryd.prog 28 #[.agg #[.int .u8 h.k, .int .u8 h.op, .int .i64 h.pl, .int .i64 h.n, .string h.name, .string h.arg, .string h.exn, .slice p l c],
      .agg #[.int .u8 h'.k, .int .u8 h'.op, .int .i64 h'.pl, .int .i64 h'.n, .string h'.name, .string h'.arg, .string h'.exn, .slice p' l' c']] w fun e w' => e = .returned (.bool (sameT t u)) ∧ Below w.heap.size w w' := by
  intro m
  induction m with
  | zero => intro t u h h' p p' l c l' c' w hm; have := wt_pos t; omega
  | succ m ih =>
    intro t u h h' p p' l c l' c' w hm hT hU
    obtain ⟨k, op, pl, nn, nm, ar, ex⟩ := h
    obtain ⟨k', op', pl', nn', nm', ar', ex'⟩ := h'
    have hlc : l ≤ 9223372036854775807 := by have := hT.cap; unfold maxLen at this; omega
    have hlc' : l' ≤ 9223372036854775807 := by have := hU.cap; unfold maxLen at this; omega
    have hbox : ∀ O O' : Obj, Below w.heap.size w ((w.alloc O).alloc O') := fun O O' => ((Below.refl _ _).alloc (Nat.le_refl _) _).alloc (by simp) _
    have HBOX := Lib.hid hbox; have HM := Lib.hid hm
    clear hm hbox
    by_cases hk : k ≠ k'
    · have hr : sameT t u = false := by rw [sameT_eq, hT.head, hU.head]; unfold sameH; simp [hk]
      have HR := Lib.hid hr
      have n1 : (k == k') = false := by simpa using hk
      have n2 : (k != k') = true := by simpa using hk
      clear hr hT hU ih hk
      go_enter Tryd.func28, Tryd.ntmps28
      go_wp2_with (fail)
      go_ret
      exact ⟨ret_bool HR.out.symm, HBOX.out _ _⟩
    have hk' : k = k' := Classical.not_not.1 hk
    clear hk
    subst hk'
    by_cases hop : op ≠ op'
    · have hr : sameT t u = false := by rw [sameT_eq, hT.head, hU.head]; unfold sameH; simp [hop]
      have HR := Lib.hid hr
      have n1 : (op == op') = false := by simpa using hop
      have n2 : (op != op') = true := by simpa using hop
      clear hr hT hU ih hop
      go_enter Tryd.func28, Tryd.ntmps28
      go_wp2_with (fail)
      go_ret
      exact ⟨ret_bool HR.out.symm, HBOX.out _ _⟩
    have hop' : op = op' := Classical.not_not.1 hop
    clear hop
    subst hop'
    by_cases hnn : nn ≠ nn'
    · have hr : sameT t u = false := by rw [sameT_eq, hT.head, hU.head]; unfold sameH; simp [hnn]
      have HR := Lib.hid hr
      have n1 : (nn == nn') = false := by simpa using hnn
      have n2 : (nn != nn') = true := by simpa using hnn
      clear hr hT hU ih hnn
      go_enter Tryd.func28, Tryd.ntmps28
      go_wp2_with (fail)
      go_ret
      exact ⟨ret_bool HR.out.symm, HBOX.out _ _⟩
    have hnn' : nn = nn' := Classical.not_not.1 hnn
    clear hnn
    subst hnn'
    by_cases hnm : nm ≠ nm'
    · have hr : sameT t u = false := by rw [sameT_eq, hT.head, hU.head]; unfold sameH; simp [hnm]
      have HR := Lib.hid hr
      have n1 : (nm.toList == nm'.toList) = false := str_no hnm
      have n2 : (nm.toList != nm'.toList) = true := by rw [bne, str_no hnm]; rfl
      clear hr hT hU ih hnm
      go_enter Tryd.func28, Tryd.ntmps28
      go_wp2_with (fail)
      go_ret
      exact ⟨ret_bool HR.out.symm, HBOX.out _ _⟩
    have hnm' : nm = nm' := Classical.not_not.1 hnm
    clear hnm
    subst hnm'
    by_cases har : ar ≠ ar'
    · have hr : sameT t u = false := by rw [sameT_eq, hT.head, hU.head]; unfold sameH; simp [har]
      have HR := Lib.hid hr
      have n1 : (ar.toList == ar'.toList) = false := str_no har
      have n2 : (ar.toList != ar'.toList) = true := by rw [bne, str_no har]; rfl
      clear hr hT hU ih har
      go_enter Tryd.func28, Tryd.ntmps28
      go_wp2_with (fail)
      go_ret
      exact ⟨ret_bool HR.out.symm, HBOX.out _ _⟩
    have har' : ar = ar' := Classical.not_not.1 har
    clear har
    subst har'
    by_cases hex : ex ≠ ex'
    · have hr : sameT t u = false := by rw [sameT_eq, hT.head, hU.head]; unfold sameH; simp [hex]
      have HR := Lib.hid hr
      have n1 : (ex.toList == ex'.toList) = false := str_no hex
      have n2 : (ex.toList != ex'.toList) = true := by rw [bne, str_no hex]; rfl
      clear hr hT hU ih hex
      go_enter Tryd.func28, Tryd.ntmps28
      go_wp2_with (fail)
      go_ret
      exact ⟨ret_bool HR.out.symm, HBOX.out _ _⟩
    have hex' : ex = ex' := Classical.not_not.1 hex
    clear hex
    subst hex'
    by_cases hll : l ≠ l'
    · have hr : sameT t u = false := by rw [sameT_eq, hT.len, hU.len]; simp [hll]
      have HR := Lib.hid hr
      have n1 : ((l : Int) == (l' : Int)) = false := by rw [beq_eq_false_iff_ne]; omega
      have n2 : ((l : Int) != (l' : Int)) = true := by rw [bne, n1]; rfl
      clear hr hT hU ih
      go_enter Tryd.func28, Tryd.ntmps28
      go_wp2_with (fail)
      go_ret
      exact ⟨ret_bool HR.out.symm, HBOX.out _ _⟩
    have hll' : l = l' := Classical.not_not.1 hll
    clear hll
    subst hll'
    have hr : sameT t u = sameK t.ks u.ks := by rw [sameT_eq, hT.head, hU.head, hT.len, hU.len]; unfold sameH; simp
    have HR := Lib.hid hr; have HT := Lib.hid hT; have HU := Lib.hid hU; have IH := Lib.hid ih
    clear hr hT hU ih hlc'
    go_enter Tryd.func28, Tryd.ntmps28
    go_wp2_with (fail)
    go_loopw [5, 70] (fun _ i wr => ∃ j : Nat, j ≤ l ∧ i = .int .i64 j ∧ sameK t.ks u.ks = sameK (t.ks.drop j) (u.ks.drop j) ∧ Below ((w.alloc (.cells #[.int .u8 k, .int .u8 op, .int .i64 pl, .int .i64 nn, .string nm, .string ar, .string ex, .slice p l c] 44)).alloc (.cells #[.int .u8 k, .int .u8 op, .int .i64 pl', .int .i64 nn, .string nm, .string ar, .string ex, .slice p' l c'] 44)).heap.size ((w.alloc (.cells #[.int .u8 k, .int .u8 op, .int .i64 pl, .int .i64 nn, .string nm, .string ar, .string ex, .slice p l c] 44)).alloc (.cells #[.int .u8 k, .int .u8 op, .int .i64 pl', .int .i64 nn, .string nm, .string ar, .string ex, .slice p' l c'] 44)) wr) (fun _ i _ => l - (intOf i).toNat)
    case atStart => exact ⟨0, Nat.zero_le _, rfl, by rw [List.drop_zero, List.drop_zero], Below.refl _ _⟩
    case round =>
      obtain ⟨j, hj, rfl, hsk, hw⟩ := hrel
      have HW := Lib.hid hw; have HSK := Lib.hid hsk
      have hw1 : Below (w.alloc (.cells #[.int .u8 k, .int .u8 op, .int .i64 pl, .int .i64 nn, .string nm, .string ar, .string ex, .slice p l c] 44)).heap.size (w.alloc (.cells #[.int .u8 k, .int .u8 op, .int .i64 pl, .int .i64 nn, .string nm, .string ar, .string ex, .slice p l c] 44)) wr := ((Below.refl _ _).alloc (Nat.le_refl _) (.cells #[.int .u8 k, .int .u8 op, .int .i64 pl', .int .i64 nn, .string nm, .string ar, .string ex, .slice p' l c'] 44)).trans (hw.mono (by simp))
      have b7 := boxAt hw1 7 rfl
      have b7' := boxAt hw 7 rfl
      rw [show (w.alloc (.cells #[.int .u8 k, .int .u8 op, .int .i64 pl, .int .i64 nn, .string nm, .string ar, .string ex, .slice p l c] 44)).heap.size = w.heap.size + 1 from by simp] at b7'
      have HWW := Lib.hid ((HBOX.out _ _).trans (hw.mono (by simp; omega : w.heap.size ≤ _)))
      clear hw hsk hw1
      by_cases hlt : j < l
      · have hjk : j < t.ks.length := by rw [HT.out.len]; exact hlt
        have hjk' : j < u.ks.length := by rw [HU.out.len]; exact hlt
        have hst := HSK.out
        rw [sameK_step _ _ _ hjk hjk'] at hst
        obtain ⟨b, o, q, d, rfl, hkid, c0, c1, c2, c3, c4, c5, c6, c7⟩ := (HT.out.kids.stay HWW.out).get j hjk
        obtain ⟨b', o', q', d', rfl, hkid', e0, e1, e2, e3, e4, e5, e6, e7⟩ := (HU.out.kids.stay HWW.out).get j hjk'
        have hwk := wts_get hjk
        have hwt := wt_ks t
        have HST := Lib.hid hst; have HK := Lib.hid hkid; have HK' := Lib.hid hkid'
        have HWK := Lib.hid hwk; have HWT := Lib.hid hwt
        clear hst hkid hkid' hwk hwt hjk hjk'
        go_wp2_with (fail)
        go_still_tail 10, (by kernel_rfl)
        go_wp2_with (fail)
        refine (IH.out (tget t.ks j) (tget u.ks j) _ _ q q' _ d _ d' _ (by have := HM.out; have := HWK.out; have := HWT.out; omega) (HK.out.below (Below.refl _ _).drew) (HK'.out.below (Below.refl _ _).drew)).mono ?_
        rintro e w2 ⟨rfl, hb2⟩
        have HW2 := Lib.hid (HW.out.drew.trans (hb2.mono HW.out.size))
        have HWW2 := Lib.hid (HWW.out.drew.trans (hb2.mono HWW.out.size))
        clear hb2 b7 b7' c0 c1 c2 c3 c4 c5 c6 c7 e0 e1 e2 e3 e4 e5 e6 e7
        cases hs : sameT (tget t.ks j) (tget u.ks j)
        · have hr2 := HST.out
          rw [hs, Bool.false_and] at hr2
          have HR2 := Lib.hid hr2
          clear hr2 hs
          go_wp2
          go_ret
          exact ⟨ret_bool (by rw [HR.out, HR2.out]), HWW2.out⟩
        · have hr2 := HST.out
          rw [hs, Bool.true_and] at hr2
          have HR2 := Lib.hid hr2
          clear hr2 hs
          go_wp2
          go_roundw
          case rel => exact ⟨j + 1, by omega, by go_num, HR2.out, HW2.out⟩
          case measure => simp [intOf]; omega
      · obtain rfl : j = l := by omega
        have hr2 := HSK.out
        rw [List.drop_eq_nil_of_le (by rw [HT.out.len]; exact Nat.le_refl _), sameK_nil] at hr2
        have HR2 := Lib.hid hr2
        clear hr2
        go_wp2
        go_ret
        exact ⟨ret_bool (by rw [HR.out, HR2.out]), HWW.out⟩
end Term
end Go.Proofs.YtolpdhkgkjnbfaaDoor
