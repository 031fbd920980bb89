/-The walk of the document's example. (Written by wip/tools/atawake.py.) The walk of 'whether any two terms are the same is the document's'. (Written by wip/tools/atsamelw.py.) From what a row lists of the keywords to what layer 2's walks ask of the world. -/
import Derived.Test.YtolpdhkgkjnbfaaGreatDoorGC14
import Derived.Test.YtolpdhkgkjnbfaaGreatDoorGC08
import Derived.Test.YtolpdhkgkjnbfaaGreatDoorGC06
import Derived.Test.YtolpdhkgkjnbfaaGreatDoorGC01
import Derived.Stop.LaidErr
import Derived.LaidMore
import Derived.LaidByTextLater
namespace Go.Proofs.YtolpdhkgkjnbfaaGreatDoor
open Go.RowKit
set_option linter.unusedVariables false
set_option linter.unusedSimpArgs false
namespace Aterm
open Effect (RdI nget nget_at nget_mem ret_bool ret_i64 lt_of_block heap_alloc_new ofA)
open Rt (box_new box_at below_then)

set_option maxRecDepth 100000 in
set_option maxHeartbeats 12800000 in
theorem awake_walk (w : World) (hkw : Words.KwLaid w) : Calls Tryz.prog 7 #[] w fun e w' => e = .returned (.bool true) ∧ Below w.heap.size w w' := by
  have HKW := Lib.hid hkw
  clear hkw
  go_enter Tryz.func7, Tryz.ntmps7
  go_upto_region 2 with (refine at_store rfl _ _ rfl _ rfl (exH 1 0) (exV none 0) 0 rfl rfl ?_)
  obtain ⟨W1, hW1⟩ : ∃ W1, W1 = w.alloc (.cells #[.int .u8 (exH 1 0).h.k, .int .u8 (exH 1 0).h.op, .int .i64 (exH 1 0).h.pl, .int .i64 (exH 1 0).h.n, .string (exH 1 0).h.name, .string (exH 1 0).h.arg, .string (exH 1 0).h.exn, .int .i64 (exH 1 0).rho, .slice (exV none 0).ra (exH 1 0).rhos.length (exV none 0).rc, .slice (exV none 0).ea (exH 1 0).e.length (exV none 0).ec, .int .u8 (exH 1 0).ty.h.k, .int .i64 (exH 1 0).ty.h.r, .slice (exV none 0).tea (exH 1 0).ty.h.e.length (exV none 0).tec, .slice (exV none 0).tka (exH 1 0).ty.ks.length (exV none 0).tkc, .int .u8 (exH 1 0).re.h.k, .int .i64 (exH 1 0).re.h.r, .slice (exV none 0).sea (exH 1 0).re.h.e.length (exV none 0).sec, .slice (exV none 0).ska (exH 1 0).re.ks.length (exV none 0).skc, .slice (exV none 0).ka 0 (exV none 0).kc] 31) := ⟨_, rfl⟩
  have hr1 : W1.rangeAt w.heap.size 0 (acells (exH 1 0) (exV none 0) 0) := by rw [hW1]; exact row_new rfl
  have hb1 : Below w.heap.size w W1 := by rw [hW1]; exact box_new _
  rw [← hW1]
  have HR1 := Lib.hid hr1; have HB1 := Lib.hid hb1
  clear hW1 hr1 hb1
  generalize hN1 : w.heap.size = N1 at HR1 ⊢
  have HN1 := Lib.hid hN1
  clear hN1
  go_upto_region 3 with (first | refine at_load rfl _ rfl N1 0 rfl HR1.out ?_ | refine at_store2 rfl _ _ rfl _ rfl (exH 3 1) (exV (some ⟨W1.heap.size, 0, none⟩) 2) 2 _ (by simp) rfl rfl ?_)
  refine of_world (F := fun V => Below W1.heap.size W1 V ∧ AtIs V (exH 3 1) (exV (some ⟨W1.heap.size, 0, none⟩) 2) 2 exP ∧ V.rangeAt (W1.heap.size + 1) 0 (acells (exH 3 1) (exV (some ⟨W1.heap.size, 0, none⟩) 2) 2))
    ⟨(box_new _).trans ((box_new _).mono (by simp)), (ex_is (k := 3) (rho := 1) (p := some ⟨W1.heap.size, 0, none⟩) (c := 2) (ts := [exN, exN]) (by decide) (by decide) ⟨Nat.le_refl _, by unfold maxLen; show 2 ≤ _; omega⟩ (kids_twice rfl)).below (box_new _), row_new (by simp)⟩ ?_
  rintro W2 ⟨hb2, hj2, hr2⟩
  have HR2 := Lib.hid hr2; have HJ2 := Lib.hid hj2; have HB2 := Lib.hid (below_then HB1.out hb2 HB1.out.size)
  clear hr2 hj2 hb2
  generalize hN2 : W1.heap.size + 1 = N2 at HR2 ⊢
  clear hN2
  go_upto_region 4 with (first | refine at_load rfl _ rfl N2 0 rfl HR2.out ?_ | refine at_store2 rfl _ _ rfl _ rfl (exH 4 0) (exV (some ⟨W2.heap.size, 0, none⟩) 1) 1 _ (by simp) rfl rfl ?_)
  refine of_world (F := fun V => Below W2.heap.size W2 V ∧ AtIs V (exH 4 0) (exV (some ⟨W2.heap.size, 0, none⟩) 1) 1 exF ∧ V.rangeAt (W2.heap.size + 1) 0 (acells (exH 4 0) (exV (some ⟨W2.heap.size, 0, none⟩) 1) 1))
    ⟨(box_new _).trans ((box_new _).mono (by simp)), (ex_is (k := 4) (rho := 0) (p := some ⟨W2.heap.size, 0, none⟩) (c := 1) (ts := [exP]) (by decide) (by decide) ⟨Nat.le_refl _, by unfold maxLen; show 1 ≤ _; omega⟩ (kids_new HJ2.out rfl)).below (box_new _), row_new (by simp)⟩ ?_
  rintro W3 ⟨hb3, hj3, hr3⟩
  have HR3 := Lib.hid hr3; have HJ3 := Lib.hid hj3; have HB3 := Lib.hid (below_then HB2.out hb3 HB2.out.size)
  clear hr3 hj3 hb3
  generalize hN3 : W2.heap.size + 1 = N3 at HR3 ⊢
  clear hN3
  go_upto_region 5 with (first | refine at_load rfl _ rfl N3 0 rfl HR3.out ?_ | refine at_store2 rfl _ _ rfl _ rfl (exH 17 1) (exV (some ⟨W3.heap.size, 0, none⟩) 1) 1 _ (by simp) rfl rfl ?_)
  refine of_world (F := fun V => Below W3.heap.size W3 V ∧ AtIs V (exH 17 1) (exV (some ⟨W3.heap.size, 0, none⟩) 1) 1 exT ∧ V.rangeAt (W3.heap.size + 1) 0 (acells (exH 17 1) (exV (some ⟨W3.heap.size, 0, none⟩) 1) 1))
    ⟨(box_new _).trans ((box_new _).mono (by simp)), (ex_is (k := 17) (rho := 1) (p := some ⟨W3.heap.size, 0, none⟩) (c := 1) (ts := [exF]) (by decide) (by decide) ⟨Nat.le_refl _, by unfold maxLen; show 1 ≤ _; omega⟩ (kids_new HJ3.out rfl)).below (box_new _), row_new (by simp)⟩ ?_
  rintro W4 ⟨hb4, hj4, hr4⟩
  have HR4 := Lib.hid hr4; have HJ4 := Lib.hid hj4; have HB4 := Lib.hid (below_then HB3.out hb4 HB3.out.size)
  clear hr4 hj4 hb4
  generalize hN4 : W3.heap.size + 1 = N4 at HR4 ⊢
  clear hN4
  have her : Calls Tryz.prog 13 #[.agg #[.int .u8 (exH 17 1).h.k, .int .u8 (exH 17 1).h.op, .int .i64 (exH 17 1).h.pl, .int .i64 (exH 17 1).h.n, .string (exH 17 1).h.name, .string (exH 17 1).h.arg, .string (exH 17 1).h.exn, .int .i64 (exH 17 1).rho, .slice (exV (some ⟨W3.heap.size, 0, none⟩) 1).ra (exH 17 1).rhos.length (exV (some ⟨W3.heap.size, 0, none⟩) 1).rc, .slice (exV (some ⟨W3.heap.size, 0, none⟩) 1).ea (exH 17 1).e.length (exV (some ⟨W3.heap.size, 0, none⟩) 1).ec, .int .u8 (exH 17 1).ty.h.k, .int .i64 (exH 17 1).ty.h.r, .slice (exV (some ⟨W3.heap.size, 0, none⟩) 1).tea (exH 17 1).ty.h.e.length (exV (some ⟨W3.heap.size, 0, none⟩) 1).tec, .slice (exV (some ⟨W3.heap.size, 0, none⟩) 1).tka (exH 17 1).ty.ks.length (exV (some ⟨W3.heap.size, 0, none⟩) 1).tkc, .int .u8 (exH 17 1).re.h.k, .int .i64 (exH 17 1).re.h.r, .slice (exV (some ⟨W3.heap.size, 0, none⟩) 1).sea (exH 17 1).re.h.e.length (exV (some ⟨W3.heap.size, 0, none⟩) 1).sec, .slice (exV (some ⟨W3.heap.size, 0, none⟩) 1).ska (exH 17 1).re.ks.length (exV (some ⟨W3.heap.size, 0, none⟩) 1).skc, .slice (exV (some ⟨W3.heap.size, 0, none⟩) 1).ka 1 (exV (some ⟨W3.heap.size, 0, none⟩) 1).kc]] W4 fun e w' => ∃ b o c, e = .returned (.agg #[.int .u8 4, .int .u8 0, .int .i64 0, .int .i64 0, .string ⟨#[]⟩, .string ⟨#[]⟩, .string ⟨#[]⟩, .slice (some ⟨b, o, none⟩) 1 c]) ∧ w'.cell? ⟨b, o, none⟩ = some (.int .u8 3) ∧ Below W4.heap.size W4 w' := by
    refine (erase_walk (wt exT) exT _ _ _ W4 (Nat.le_refl _) (by rw [wt_T]; omega) HJ4.out).mono ?_
    rintro e w' ⟨q, c, he, hT, hb⟩
    rw [erase_ex] at he hT
    obtain ⟨b, o, q', c', hq, -, hc, -⟩ := hT.kids.get 0 (by decide)
    subst hq
    exact ⟨b, o, c, he, by have := Term.veil_reads _ _ _ _ hc; rw [Nat.zero_mul, Nat.add_zero] at this; exact this, hb⟩
  have hmay := fun (W : World) (hb : Below W4.heap.size W4 W) => may_walk exT _ _ _ W (HJ4.out.below hb) (by rw [wt_T]; omega) small_ex (HKW.out.below (below_then HB4.out hb HB4.out.size))
  have h5 : wts [exT] = 5 := by rw [wts_cons, wts_nil, wt_T]
  have hsize := fun (W : World) (N : Nat) (hN : W.rangeAt N 0 (acells (exH 17 1) (exV (some ⟨W3.heap.size, 0, none⟩) 1) 1)) (hb : Below W4.heap.size W4 W) => size_walk [exT] (some ⟨N, 0, none⟩) 1 1 W4 W rfl Rt.one_le (fun W' hW' => row_one HJ4.out (range_below hN hW')) hb (by rw [h5]; omega) (by rw [allK_of1]; exact small_ex)
  rw [h5] at hsize
  rw [may_ex] at hmay
  have HER := Lib.hid her; have HMAY := Lib.hid hmay; have HSIZE := Lib.hid hsize
  clear her hmay hsize h5
  go_wp2_with (refine at_load rfl _ rfl N4 0 rfl HR4.out ?_)
  refine HER.out.mono ?_
  rintro e w5 ⟨b, o, c, rfl, hc, hb5⟩
  have hcE := heap_alloc_new w5 (.cells #[.int .u8 4, .int .u8 0, .int .i64 0, .int .i64 0, .string ⟨#[]⟩, .string ⟨#[]⟩, .string ⟨#[]⟩, .slice (some ⟨b, o, none⟩) 1 c] 38)
  have hb6 := box_new (w := w5) (.cells #[.int .u8 4, .int .u8 0, .int .i64 0, .int .i64 0, .string ⟨#[]⟩, .string ⟨#[]⟩, .string ⟨#[]⟩, .slice (some ⟨b, o, none⟩) 1 c] 38)
  go_upto_region 6 with (fail)
  generalize hW6 : w5.alloc (.cells #[.int .u8 4, .int .u8 0, .int .i64 0, .int .i64 0, .string ⟨#[]⟩, .string ⟨#[]⟩, .string ⟨#[]⟩, .slice (some ⟨b, o, none⟩) 1 c] 38) = W6 at hcE hb6 ⊢
  clear hW6
  generalize hN5 : w5.heap.size = N5 at hcE hb6 ⊢
  have HCE := Lib.hid hcE
  have HC := Lib.hid ((hb6.cell (p := ⟨b, o, none⟩) (by rw [← hN5]; exact World.block_lt_of_cell? w5 _ hc)).trans hc)
  have HB6 := Lib.hid (below_then hb5 (by rw [hN5]; exact hb6) hb5.size)
  have HR6 := Lib.hid (range_below HR4.out HB6.out)
  clear hcE hb6 hc hb5 hN5
  go_wp2_with (refine at_load rfl _ rfl N4 0 rfl HR6.out ?_)
  refine (HMAY.out W6 HB6.out).mono ?_
  rintro e w7 ⟨rfl, hb7⟩
  have HB7 := Lib.hid (below_then HB6.out hb7 HB6.out.size)
  have HCE7 := Lib.hid ((hb7.block _ (lt_of_block HCE.out)).trans HCE.out)
  have HC7 := Lib.hid ((hb7.cell (p := ⟨b, o, none⟩) (World.block_lt_of_cell? W6 _ HC.out)).trans HC.out)
  have HR7 := Lib.hid (range_below HR4.out HB7.out)
  clear hb7
  go_wp2_with (refine at_load_g (by rfl) _ rfl N4 0 rfl HR7.out ?_)
  refine (HSIZE.out _ w7.heap.size (row_new rfl) (below_then HB7.out (box_new _) HB7.out.size)).mono ?_
  rintro e w8 ⟨rfl, hb8⟩
  have hb9 := (box_new (w := w7) (.cells #[.int .u8 (exH 17 1).h.k, .int .u8 (exH 17 1).h.op, .int .i64 (exH 17 1).h.pl, .int .i64 (exH 17 1).h.n, .string (exH 17 1).h.name, .string (exH 17 1).h.arg, .string (exH 17 1).h.exn, .int .i64 (exH 17 1).rho, .slice (exV (some ⟨W3.heap.size, 0, none⟩) 1).ra (exH 17 1).rhos.length (exV (some ⟨W3.heap.size, 0, none⟩) 1).rc, .slice (exV (some ⟨W3.heap.size, 0, none⟩) 1).ea (exH 17 1).e.length (exV (some ⟨W3.heap.size, 0, none⟩) 1).ec, .int .u8 (exH 17 1).ty.h.k, .int .i64 (exH 17 1).ty.h.r, .slice (exV (some ⟨W3.heap.size, 0, none⟩) 1).tea (exH 17 1).ty.h.e.length (exV (some ⟨W3.heap.size, 0, none⟩) 1).tec, .slice (exV (some ⟨W3.heap.size, 0, none⟩) 1).tka (exH 17 1).ty.ks.length (exV (some ⟨W3.heap.size, 0, none⟩) 1).tkc, .int .u8 (exH 17 1).re.h.k, .int .i64 (exH 17 1).re.h.r, .slice (exV (some ⟨W3.heap.size, 0, none⟩) 1).sea (exH 17 1).re.h.e.length (exV (some ⟨W3.heap.size, 0, none⟩) 1).sec, .slice (exV (some ⟨W3.heap.size, 0, none⟩) 1).ska (exH 17 1).re.ks.length (exV (some ⟨W3.heap.size, 0, none⟩) 1).skc, .slice (exV (some ⟨W3.heap.size, 0, none⟩) 1).ka 1 (exV (some ⟨W3.heap.size, 0, none⟩) 1).kc] 31)).trans (hb8.mono (by simp))
  have hce8 := (hb9.block _ (lt_of_block HCE7.out)).trans HCE7.out
  have c0 : w8.cell? ⟨N5, 0, none⟩ = some (.int .u8 4) := by simp [World.cell?, hce8]
  have c7 : w8.cell? ⟨N5, 7, none⟩ = some (.slice (some ⟨b, o, none⟩) 1 c) := by simp [World.cell?, hce8]
  have cb : w8.cell? ⟨b, o, none⟩ = some (.int .u8 3) := (hb9.cell (p := ⟨b, o, none⟩) (World.block_lt_of_cell? w7 _ HC7.out)).trans HC7.out
  have HB8 := Lib.hid (below_then HB4.out (HB7.out.trans (hb9.mono HB7.out.size)) HB4.out.size)
  clear hb8 hb9 hce8
  go_wp2_with (fail)
  go_ret
  exact ⟨rfl, HB8.out⟩
end Aterm
end Go.Proofs.YtolpdhkgkjnbfaaGreatDoor
namespace Go.Proofs.YtolpdhkgkjnbfaaGreatDoor
open Go.RowKit
set_option linter.unusedVariables false
set_option linter.unusedSimpArgs false
namespace Aterm
open Effect (RdI nget nget_at nget_mem ret_bool ret_i64 lt_of_block heap_alloc_new ofA)
open Rt (box_new box_at below_then)

set_option maxRecDepth 100000 in
set_option maxHeartbeats 12800000 in
theorem sameLaw_walk (h : Hd) (v : V) (l : Nat) (t : AT) (h' : Hd) (v' : V) (l' : Nat) (u : AT) (w : World) (hT : AtIs w h v l t) (hU : AtIs w h' v' l' u) (hkw : Words.KwLaid w) :
    Calls Tryz.prog 4 #[.agg #[.int .u8 h.h.k, .int .u8 h.h.op, .int .i64 h.h.pl, .int .i64 h.h.n, .string h.h.name, .string h.h.arg, .string h.h.exn, .int .i64 h.rho, .slice v.ra h.rhos.length v.rc, .slice v.ea h.e.length v.ec, .int .u8 h.ty.h.k, .int .i64 h.ty.h.r, .slice v.tea h.ty.h.e.length v.tec, .slice v.tka h.ty.ks.length v.tkc, .int .u8 h.re.h.k, .int .i64 h.re.h.r, .slice v.sea h.re.h.e.length v.sec, .slice v.ska h.re.ks.length v.skc, .slice v.ka l v.kc], .agg #[.int .u8 h'.h.k, .int .u8 h'.h.op, .int .i64 h'.h.pl, .int .i64 h'.h.n, .string h'.h.name, .string h'.h.arg, .string h'.h.exn, .int .i64 h'.rho, .slice v'.ra h'.rhos.length v'.rc, .slice v'.ea h'.e.length v'.ec, .int .u8 h'.ty.h.k, .int .i64 h'.ty.h.r, .slice v'.tea h'.ty.h.e.length v'.tec, .slice v'.tka h'.ty.ks.length v'.tkc, .int .u8 h'.re.h.k, .int .i64 h'.re.h.r, .slice v'.sea h'.re.h.e.length v'.sec, .slice v'.ska h'.re.ks.length v'.skc, .slice v'.ka l' v'.kc]] w fun e w' => e = .returned (.bool true) ∧ Below w.heap.size w w' := by
  have haw := fun (W : World) (hb : Below w.heap.size w W) => awake_walk W (hkw.below hb)
  have hg1 := fun (W : World) (hb : Below w.heap.size w W) => great_walk t h v l W (hT.below hb)
  have hg2 := fun (W : World) (hb : Below w.heap.size w W) => great_walk u h' v' l' W (hU.below hb)
  have HAW := Lib.hid haw; have HG1 := Lib.hid hg1; have HG2 := Lib.hid hg2; have HT := Lib.hid hT; have HU := Lib.hid hU
  clear haw hg1 hg2 hT hU hkw
  go_enter Tryz.func4, Tryz.ntmps4
  go_upto_region 1 with (fail)
  obtain ⟨W0, hW0⟩ : ∃ W0, W0 = (w.alloc (.cells #[.int .u8 h.h.k, .int .u8 h.h.op, .int .i64 h.h.pl, .int .i64 h.h.n, .string h.h.name, .string h.h.arg, .string h.h.exn, .int .i64 h.rho, .slice v.ra h.rhos.length v.rc, .slice v.ea h.e.length v.ec, .int .u8 h.ty.h.k, .int .i64 h.ty.h.r, .slice v.tea h.ty.h.e.length v.tec, .slice v.tka h.ty.ks.length v.tkc, .int .u8 h.re.h.k, .int .i64 h.re.h.r, .slice v.sea h.re.h.e.length v.sec, .slice v.ska h.re.ks.length v.skc, .slice v.ka l v.kc] 31)).alloc (.cells #[.int .u8 h'.h.k, .int .u8 h'.h.op, .int .i64 h'.h.pl, .int .i64 h'.h.n, .string h'.h.name, .string h'.h.arg, .string h'.h.exn, .int .i64 h'.rho, .slice v'.ra h'.rhos.length v'.rc, .slice v'.ea h'.e.length v'.ec, .int .u8 h'.ty.h.k, .int .i64 h'.ty.h.r, .slice v'.tea h'.ty.h.e.length v'.tec, .slice v'.tka h'.ty.ks.length v'.tkc, .int .u8 h'.re.h.k, .int .i64 h'.re.h.r, .slice v'.sea h'.re.h.e.length v'.sec, .slice v'.ska h'.re.ks.length v'.skc, .slice v'.ka l' v'.kc] 31) := ⟨_, rfl⟩
  have hbx1 : Box W0 w.heap.size h v l := by rw [hW0]; exact (box_of (w := w) (h := h) (v := v) (l := l)).below (box_new _)
  have hbx2 : Box W0 (w.heap.size + 1) h' v' l' := by
    rw [hW0]
    have := box_of (w := w.alloc (.cells #[.int .u8 h.h.k, .int .u8 h.h.op, .int .i64 h.h.pl, .int .i64 h.h.n, .string h.h.name, .string h.h.arg, .string h.h.exn, .int .i64 h.rho, .slice v.ra h.rhos.length v.rc, .slice v.ea h.e.length v.ec, .int .u8 h.ty.h.k, .int .i64 h.ty.h.r, .slice v.tea h.ty.h.e.length v.tec, .slice v.tka h.ty.ks.length v.tkc, .int .u8 h.re.h.k, .int .i64 h.re.h.r, .slice v.sea h.re.h.e.length v.sec, .slice v.ska h.re.ks.length v.skc, .slice v.ka l v.kc] 31)) (h := h') (v := v') (l := l') (ty := 31)
    rwa [World.size_alloc] at this
  have hb0 : Below w.heap.size w W0 := by rw [hW0]; exact (box_new _).trans ((box_new _).mono (by simp))
  rw [← hW0]
  clear hW0
  generalize hN2 : w.heap.size + 1 = N2 at hbx2 ⊢
  generalize hN1 : w.heap.size = N1 at hbx1 ⊢
  have HC0 := Lib.hid hb0; have HX1 := Lib.hid hbx1.range; have HX2 := Lib.hid hbx2.range
  clear hb0 hN1 hN2 hbx1 hbx2
  go_wp2_with (refine at_load rfl _ rfl N1 0 rfl HX1.out ?_)
  refine (HG1.out W0 HC0.out).mono ?_
  rintro e w1 ⟨rfl, hb1⟩
  have HC1 := Lib.hid (below_then HC0.out hb1 HC0.out.size); have P1 := Lib.hid (range_below HX1.out hb1); have Q1 := Lib.hid (range_below HX2.out hb1)
  clear hb1
  cases hq1 : greatT t
  case true =>
    go_wp2_with (fail)
    refine (HAW.out w1 HC1.out).mono ?_
    rintro e w2 ⟨rfl, hb2⟩
    have HC2 := Lib.hid (below_then HC1.out hb2 HC1.out.size)
    clear hb2
    go_wp2_with (fail)
    go_ret
    exact ⟨rfl, HC2.out⟩
  go_wp2_with (refine at_load_g (by rfl) _ rfl N2 0 rfl Q1.out ?_)
  refine (HG2.out w1 HC1.out).mono ?_
  rintro e w2 ⟨rfl, hb1⟩
  have HC2 := Lib.hid (below_then HC1.out hb1 HC1.out.size); have P2 := Lib.hid (range_below P1.out hb1); have Q2 := Lib.hid (range_below Q1.out hb1)
  clear hb1
  cases hq2 : greatT u
  case true =>
    go_wp2_with (fail)
    refine (HAW.out w2 HC2.out).mono ?_
    rintro e w3 ⟨rfl, hb2⟩
    have HC3 := Lib.hid (below_then HC2.out hb2 HC2.out.size)
    clear hb2
    go_wp2_with (fail)
    go_ret
    exact ⟨rfl, HC3.out⟩
  have hs1 := small_of hq1
  have hs2 := small_of hq2
  have hrs := fun (W : World) (hb : Below w.heap.size w W) => refSame_walk _ t u h h' v v' l l' W (Nat.le_refl _) (HT.out.below hb) (HU.out.below hb) hs1.2 hs2.2
  have hp1 := fun (W : World) (hb : Below w.heap.size w W) => same_walk _ t u h h' v v' l l' W (Nat.le_refl _) (HT.out.below hb) (HU.out.below hb) hs1.2 hs2.2
  have hp2 := fun (W : World) (hb : Below w.heap.size w W) => same_walk _ u t h' h v' v l' l W (Nat.le_refl _) (HU.out.below hb) (HT.out.below hb) hs2.2 hs1.2
  have hp3 := fun (W : World) (hb : Below w.heap.size w W) => same_walk _ t t h h v v l l W (Nat.le_refl _) (HT.out.below hb) (HT.out.below hb) hs1.2 hs1.2
  rw [same_comm u t] at hp2
  rw [same_self t] at hp3
  have HRS := Lib.hid hrs; have HP1 := Lib.hid hp1; have HP2 := Lib.hid hp2; have HP3 := Lib.hid hp3
  clear hrs hp1 hp2 hp3 hs1 hs2 hq1 hq2
  go_wp2_with (first | refine at_load rfl _ rfl N1 0 rfl P2.out ?_ | refine at_load rfl _ rfl N2 0 rfl Q2.out ?_)
  refine (HRS.out w2 HC2.out).mono ?_
  rintro e w3 ⟨rfl, hb1⟩
  have HC3 := Lib.hid (below_then HC2.out hb1 HC2.out.size); have P3 := Lib.hid (range_below P2.out hb1); have Q3 := Lib.hid (range_below Q2.out hb1)
  clear hb1
  generalize sameT t u = X at *
  go_wp2_with (first | refine at_load rfl _ rfl N1 0 rfl P3.out ?_ | refine at_load rfl _ rfl N2 0 rfl Q3.out ?_)
  refine (HP1.out w3 HC3.out).mono ?_
  rintro e w4 ⟨rfl, hb1⟩
  have HC4 := Lib.hid (below_then HC3.out hb1 HC3.out.size); have P4 := Lib.hid (range_below P3.out hb1); have Q4 := Lib.hid (range_below Q3.out hb1)
  clear hb1
  have e1 : (X == X) = true := by simp
  go_wp2_with (first | refine at_load_g (by first | rfl | simp [Region.wanted, yielded, Act.put]) _ rfl N1 0 rfl P4.out ?_ | refine at_load_g (by first | rfl | simp [Region.wanted, yielded, Act.put]) _ rfl N2 0 rfl Q4.out ?_)
  refine (HP2.out w4 HC4.out).mono ?_
  rintro e w5 ⟨rfl, hb1⟩
  have HC5 := Lib.hid (below_then HC4.out hb1 HC4.out.size); have P5 := Lib.hid (range_below P4.out hb1)
  clear hb1
  go_wp2_with (refine at_load_g (by first | rfl | simp [Region.wanted, yielded, Act.put]) _ rfl N1 0 rfl P5.out ?_)
  refine (HP3.out w5 HC5.out).mono ?_
  rintro e w6 ⟨rfl, hb1⟩
  have HC6 := Lib.hid (below_then HC5.out hb1 HC5.out.size)
  clear hb1
  go_wp2_with (fail)
  refine (HAW.out w6 HC6.out).mono ?_
  rintro e w7 ⟨rfl, hb1⟩
  have HC7 := Lib.hid (below_then HC6.out hb1 HC6.out.size)
  clear hb1
  go_wp2_with (fail)
  go_ret
  exact ⟨rfl, HC7.out⟩
end Aterm
end Go.Proofs.YtolpdhkgkjnbfaaGreatDoor
namespace Go.Proofs.YtolpdhkgkjnbfaaGreatDoor
open Go.RowKit Go.ChangeShapes
namespace Words

/-- AN ARRAY OF TEXTS THAT READS AS A TABLE HOLDS THE TABLE's TEXTS, cell for cell. -/
theorem cells_of_strs {H : Type} {enc : TypeId × Value → H} {P : Program} {w : World} {base : Nat} {sp : Nat → Bool} {held : Bool} {fuel : Nat} {t e : TypeId} {n : Nat} {cs : List Value} {zs : List (List UInt8)} {p : List MemPlace}
    (ht : P.underlying t = some (.array n e)) (he : P.underlying e = some .string) (hce : P.cellsOf e = 1) (hct : P.cellsOf t = n)
    (h : DataW.trod enc P w base sp held fuel t cs = some (.agg (zs.map fun z => .lit (.string z)), p)) : cs = zs.map fun z => Value.string ⟨z.toArray⟩ := by
  cases fuel with
  | zero => simp [DataW.trod] at h
  | succ fuel =>
    simp only [DataW.trod, ht, hce, hct, Nat.mul_one] at h
    split at h
    · rename_i hl
      obtain ⟨xs, hm, hx⟩ := Option.map_eq_some_iff.1 h
      have hxs : xs.map (·.1) = zs.map fun z => (DataW.lit (.string z) : DataW H) := by
        have := congrArg Prod.fst hx
        simpa using this
      have hxl : xs.length = n := by simpa using Lib.mapM_length hm
      have hzl : zs.length = n := by
        have := congrArg List.length hxs
        simp at this
        omega
      apply List.ext_getElem?
      intro i
      by_cases hi : i < n
      · obtain ⟨b, hb, hf⟩ := Lib.mapM_at hm i i (by simp [hi])
        obtain ⟨z, hc, rfl, _⟩ := DataW.trod_string he hf
        have h1 : cs[i]? = some (.string z) := by
          have := congrArg (·[0]?) hc
          simpa [List.getElem?_take, List.getElem?_drop] using this
        have h2 : (xs.map (·.1))[i]? = some (DataW.lit (.string z.data.toList) : DataW H) := by simp [hb]
        rw [hxs] at h2
        simp only [List.getElem?_map, Option.map_eq_some_iff, DataW.lit.injEq, Lit.string.injEq] at h2
        obtain ⟨z', hz', e⟩ := h2
        simp [h1, hz', e]
      · rw [List.getElem?_eq_none (by omega), List.getElem?_eq_none (by simp; omega)]
    · cases h

theorem gKw : Tryz.prog.globalNamed "enclave/words.keywords" = some 0 := by kernel_rfl
theorem tKw : (Tryz.prog.globals[0]?).map (·.type) = some 123 := by kernel_rfl
theorem kwLaid_of {W : World} {r : List (String × DataW Unit)} (h : laidMet Tryz.prog (("enclave/words.keywords", Rows.laid_enclave_words_keywords) :: r) W) : KwLaid W := by
  obtain ⟨ps, ⟨g', t', cs, fuel, p, q, hg', ht', hvar, hd, _, _⟩, _⟩ := h
  obtain rfl := Option.some.inj (gKw.symm.trans hg')
  obtain rfl := Option.some.inj (tKw.symm.trans ht')
  have hcs := cells_of_strs (zs := kwTexts) Tryz.underlying123 Tryz.underlying9 (by kernel_rfl) (by kernel_rfl) hd
  intro k hk
  have := World.var?_cell gKw hvar k
  obtain ⟨l⟩ := cs
  simp only at hcs
  subst hcs
  have hk' : k < kwTexts.length := hk
  rw [this]
  simp [kwT, List.getD, hk']

end Words
end Go.Proofs.YtolpdhkgkjnbfaaGreatDoor
