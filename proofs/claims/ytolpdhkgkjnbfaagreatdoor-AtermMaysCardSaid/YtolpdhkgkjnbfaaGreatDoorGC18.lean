/-The walk of the document's example. (Written by wip/tools/atawake.py.) The walks of the document's Binds of terms with regions. The walks of the document's May of terms with regions, and of 'whether any term with regions may be is the document's'. (Written by wip/tools/atmayslaw.py.) From what a row lists of the keywords to what layer 2's walks ask of the world. The walk of 'without regions a term has as many nodes less as it has KRegions'. (Written by wip/tools/atnodeslaw.py.) -/
import Derived.Test.YtolpdhkgkjnbfaaGreatDoorGC17
import Derived.Test.YtolpdhkgkjnbfaaGreatDoorGC08
import Derived.Test.YtolpdhkgkjnbfaaGreatDoorGC15
import Derived.Test.YtolpdhkgkjnbfaaGreatDoorGC16
import Derived.Test.YtolpdhkgkjnbfaaGreatDoorGC09
import Derived.Deep.RegionHeld3
import Derived.Test.YtolpdhkgkjnbfaaGreatDoorGC00
import Derived.Stop.LaidErr
import Derived.LaidMore
import Derived.LaidByTextLater
import Derived.Test.YtolpdhkgkjnbfaaGreatDoorGC10
namespace Go.Proofs.YtolpdhkgkjnbfaaGreatDoor
open Go.RowKit
set_option linter.unusedVariables false
set_option linter.unusedSimpArgs false
namespace Aterm
open Effect (RdI nget nget_at nget_mem ret_bool ret_i64 lt_of_block heap_alloc_new ofA)
open Rt (box_new box_at below_then)

set_option maxRecDepth 100000 in
set_option maxHeartbeats 12800000 in
theorem awake_walk (w : World) (hkw : Words.KwLaid w) : Calls Tryz.prog 7 #[] w fun e w' => e = .returned (.bool true) ∧ Below w.heap.size w w' := by
  have HKW := Lib.hid hkw
  clear hkw
  go_enter Tryz.func7, Tryz.ntmps7
  go_upto_region 2 with (refine at_store rfl _ _ rfl _ rfl (exH 1 0) (exV none 0) 0 rfl rfl ?_)
  obtain ⟨W1, hW1⟩ : ∃ W1, W1 = w.alloc (.cells #[.int .u8 (exH 1 0).h.k, .int .u8 (exH 1 0).h.op, .int .i64 (exH 1 0).h.pl, .int .i64 (exH 1 0).h.n, .string (exH 1 0).h.name, .string (exH 1 0).h.arg, .string (exH 1 0).h.exn, .int .i64 (exH 1 0).rho, .slice (exV none 0).ra (exH 1 0).rhos.length (exV none 0).rc, .slice (exV none 0).ea (exH 1 0).e.length (exV none 0).ec, .int .u8 (exH 1 0).ty.h.k, .int .i64 (exH 1 0).ty.h.r, .slice (exV none 0).tea (exH 1 0).ty.h.e.length (exV none 0).tec, .slice (exV none 0).tka (exH 1 0).ty.ks.length (exV none 0).tkc, .int .u8 (exH 1 0).re.h.k, .int .i64 (exH 1 0).re.h.r, .slice (exV none 0).sea (exH 1 0).re.h.e.length (exV none 0).sec, .slice (exV none 0).ska (exH 1 0).re.ks.length (exV none 0).skc, .slice (exV none 0).ka 0 (exV none 0).kc] 31) := ⟨_, rfl⟩
  have hr1 : W1.rangeAt w.heap.size 0 (acells (exH 1 0) (exV none 0) 0) := by rw [hW1]; exact row_new rfl
  have hb1 : Below w.heap.size w W1 := by rw [hW1]; exact box_new _
  rw [← hW1]
  have HR1 := Lib.hid hr1; have HB1 := Lib.hid hb1
  clear hW1 hr1 hb1
  generalize hN1 : w.heap.size = N1 at HR1 ⊢
  have HN1 := Lib.hid hN1
  clear hN1
  go_upto_region 3 with (first | refine at_load rfl _ rfl N1 0 rfl HR1.out ?_ | refine at_store2 rfl _ _ rfl _ rfl (exH 3 1) (exV (some ⟨W1.heap.size, 0, none⟩) 2) 2 _ (by simp) rfl rfl ?_)
  refine of_world (F := fun V => Below W1.heap.size W1 V ∧ AtIs V (exH 3 1) (exV (some ⟨W1.heap.size, 0, none⟩) 2) 2 exP ∧ V.rangeAt (W1.heap.size + 1) 0 (acells (exH 3 1) (exV (some ⟨W1.heap.size, 0, none⟩) 2) 2))
    ⟨(box_new _).trans ((box_new _).mono (by simp)), (ex_is (k := 3) (rho := 1) (p := some ⟨W1.heap.size, 0, none⟩) (c := 2) (ts := [exN, exN]) (by decide) (by decide) ⟨Nat.le_refl _, by unfold maxLen; show 2 ≤ _; omega⟩ (kids_twice rfl)).below (box_new _), row_new (by simp)⟩ ?_
  rintro W2 ⟨hb2, hj2, hr2⟩
  have HR2 := Lib.hid hr2; have HJ2 := Lib.hid hj2; have HB2 := Lib.hid (below_then HB1.out hb2 HB1.out.size)
  clear hr2 hj2 hb2
  generalize hN2 : W1.heap.size + 1 = N2 at HR2 ⊢
  clear hN2
  go_upto_region 4 with (first | refine at_load rfl _ rfl N2 0 rfl HR2.out ?_ | refine at_store2 rfl _ _ rfl _ rfl (exH 4 0) (exV (some ⟨W2.heap.size, 0, none⟩) 1) 1 _ (by simp) rfl rfl ?_)
  refine of_world (F := fun V => Below W2.heap.size W2 V ∧ AtIs V (exH 4 0) (exV (some ⟨W2.heap.size, 0, none⟩) 1) 1 exF ∧ V.rangeAt (W2.heap.size + 1) 0 (acells (exH 4 0) (exV (some ⟨W2.heap.size, 0, none⟩) 1) 1))
    ⟨(box_new _).trans ((box_new _).mono (by simp)), (ex_is (k := 4) (rho := 0) (p := some ⟨W2.heap.size, 0, none⟩) (c := 1) (ts := [exP]) (by decide) (by decide) ⟨Nat.le_refl _, by unfold maxLen; show 1 ≤ _; omega⟩ (kids_new HJ2.out rfl)).below (box_new _), row_new (by simp)⟩ ?_
  rintro W3 ⟨hb3, hj3, hr3⟩
  have HR3 := Lib.hid hr3; have HJ3 := Lib.hid hj3; have HB3 := Lib.hid (below_then HB2.out hb3 HB2.out.size)
  clear hr3 hj3 hb3
  generalize hN3 : W2.heap.size + 1 = N3 at HR3 ⊢
  clear hN3
  go_upto_region 5 with (first | refine at_load rfl _ rfl N3 0 rfl HR3.out ?_ | refine at_store2 rfl _ _ rfl _ rfl (exH 17 1) (exV (some ⟨W3.heap.size, 0, none⟩) 1) 1 _ (by simp) rfl rfl ?_)
  refine of_world (F := fun V => Below W3.heap.size W3 V ∧ AtIs V (exH 17 1) (exV (some ⟨W3.heap.size, 0, none⟩) 1) 1 exT ∧ V.rangeAt (W3.heap.size + 1) 0 (acells (exH 17 1) (exV (some ⟨W3.heap.size, 0, none⟩) 1) 1))
    ⟨(box_new _).trans ((box_new _).mono (by simp)), (ex_is (k := 17) (rho := 1) (p := some ⟨W3.heap.size, 0, none⟩) (c := 1) (ts := [exF]) (by decide) (by decide) ⟨Nat.le_refl _, by unfold maxLen; show 1 ≤ _; omega⟩ (kids_new HJ3.out rfl)).below (box_new _), row_new (by simp)⟩ ?_
  rintro W4 ⟨hb4, hj4, hr4⟩
  have HR4 := Lib.hid hr4; have HJ4 := Lib.hid hj4; have HB4 := Lib.hid (below_then HB3.out hb4 HB3.out.size)
  clear hr4 hj4 hb4
  generalize hN4 : W3.heap.size + 1 = N4 at HR4 ⊢
  clear hN4
  have her : Calls Tryz.prog 13 #[.agg #[.int .u8 (exH 17 1).h.k, .int .u8 (exH 17 1).h.op, .int .i64 (exH 17 1).h.pl, .int .i64 (exH 17 1).h.n, .string (exH 17 1).h.name, .string (exH 17 1).h.arg, .string (exH 17 1).h.exn, .int .i64 (exH 17 1).rho, .slice (exV (some ⟨W3.heap.size, 0, none⟩) 1).ra (exH 17 1).rhos.length (exV (some ⟨W3.heap.size, 0, none⟩) 1).rc, .slice (exV (some ⟨W3.heap.size, 0, none⟩) 1).ea (exH 17 1).e.length (exV (some ⟨W3.heap.size, 0, none⟩) 1).ec, .int .u8 (exH 17 1).ty.h.k, .int .i64 (exH 17 1).ty.h.r, .slice (exV (some ⟨W3.heap.size, 0, none⟩) 1).tea (exH 17 1).ty.h.e.length (exV (some ⟨W3.heap.size, 0, none⟩) 1).tec, .slice (exV (some ⟨W3.heap.size, 0, none⟩) 1).tka (exH 17 1).ty.ks.length (exV (some ⟨W3.heap.size, 0, none⟩) 1).tkc, .int .u8 (exH 17 1).re.h.k, .int .i64 (exH 17 1).re.h.r, .slice (exV (some ⟨W3.heap.size, 0, none⟩) 1).sea (exH 17 1).re.h.e.length (exV (some ⟨W3.heap.size, 0, none⟩) 1).sec, .slice (exV (some ⟨W3.heap.size, 0, none⟩) 1).ska (exH 17 1).re.ks.length (exV (some ⟨W3.heap.size, 0, none⟩) 1).skc, .slice (exV (some ⟨W3.heap.size, 0, none⟩) 1).ka 1 (exV (some ⟨W3.heap.size, 0, none⟩) 1).kc]] W4 fun e w' => ∃ b o c, e = .returned (.agg #[.int .u8 4, .int .u8 0, .int .i64 0, .int .i64 0, .string ⟨#[]⟩, .string ⟨#[]⟩, .string ⟨#[]⟩, .slice (some ⟨b, o, none⟩) 1 c]) ∧ w'.cell? ⟨b, o, none⟩ = some (.int .u8 3) ∧ Below W4.heap.size W4 w' := by
    refine (erase_walk (wt exT) exT _ _ _ W4 (Nat.le_refl _) (by rw [wt_T]; omega) HJ4.out).mono ?_
    rintro e w' ⟨q, c, he, hT, hb⟩
    rw [erase_ex] at he hT
    obtain ⟨b, o, q', c', hq, -, hc, -⟩ := hT.kids.get 0 (by decide)
    subst hq
    exact ⟨b, o, c, he, by have := Term.veil_reads _ _ _ _ hc; rw [Nat.zero_mul, Nat.add_zero] at this; exact this, hb⟩
  have hmay := fun (W : World) (hb : Below W4.heap.size W4 W) => may_walk exT _ _ _ W (HJ4.out.below hb) (by rw [wt_T]; omega) small_ex (HKW.out.below (below_then HB4.out hb HB4.out.size))
  have h5 : wts [exT] = 5 := by rw [wts_cons, wts_nil, wt_T]
  have hsize := fun (W : World) (N : Nat) (hN : W.rangeAt N 0 (acells (exH 17 1) (exV (some ⟨W3.heap.size, 0, none⟩) 1) 1)) (hb : Below W4.heap.size W4 W) => size_walk [exT] (some ⟨N, 0, none⟩) 1 1 W4 W rfl Rt.one_le (fun W' hW' => row_one HJ4.out (range_below hN hW')) hb (by rw [h5]; omega) (by rw [allK_of1]; exact small_ex)
  rw [h5] at hsize
  rw [may_ex] at hmay
  have HER := Lib.hid her; have HMAY := Lib.hid hmay; have HSIZE := Lib.hid hsize
  clear her hmay hsize h5
  go_wp2_with (refine at_load rfl _ rfl N4 0 rfl HR4.out ?_)
  refine HER.out.mono ?_
  rintro e w5 ⟨b, o, c, rfl, hc, hb5⟩
  have hcE := heap_alloc_new w5 (.cells #[.int .u8 4, .int .u8 0, .int .i64 0, .int .i64 0, .string ⟨#[]⟩, .string ⟨#[]⟩, .string ⟨#[]⟩, .slice (some ⟨b, o, none⟩) 1 c] 38)
  have hb6 := box_new (w := w5) (.cells #[.int .u8 4, .int .u8 0, .int .i64 0, .int .i64 0, .string ⟨#[]⟩, .string ⟨#[]⟩, .string ⟨#[]⟩, .slice (some ⟨b, o, none⟩) 1 c] 38)
  go_upto_region 6 with (fail)
  generalize hW6 : w5.alloc (.cells #[.int .u8 4, .int .u8 0, .int .i64 0, .int .i64 0, .string ⟨#[]⟩, .string ⟨#[]⟩, .string ⟨#[]⟩, .slice (some ⟨b, o, none⟩) 1 c] 38) = W6 at hcE hb6 ⊢
  clear hW6
  generalize hN5 : w5.heap.size = N5 at hcE hb6 ⊢
  have HCE := Lib.hid hcE
  have HC := Lib.hid ((hb6.cell (p := ⟨b, o, none⟩) (by rw [← hN5]; exact World.block_lt_of_cell? w5 _ hc)).trans hc)
  have HB6 := Lib.hid (below_then hb5 (by rw [hN5]; exact hb6) hb5.size)
  have HR6 := Lib.hid (range_below HR4.out HB6.out)
  clear hcE hb6 hc hb5 hN5
  go_wp2_with (refine at_load rfl _ rfl N4 0 rfl HR6.out ?_)
  refine (HMAY.out W6 HB6.out).mono ?_
  rintro e w7 ⟨rfl, hb7⟩
  have HB7 := Lib.hid (below_then HB6.out hb7 HB6.out.size)
  have HCE7 := Lib.hid ((hb7.block _ (lt_of_block HCE.out)).trans HCE.out)
  have HC7 := Lib.hid ((hb7.cell (p := ⟨b, o, none⟩) (World.block_lt_of_cell? W6 _ HC.out)).trans HC.out)
  have HR7 := Lib.hid (range_below HR4.out HB7.out)
  clear hb7
  go_wp2_with (refine at_load_g (by rfl) _ rfl N4 0 rfl HR7.out ?_)
  refine (HSIZE.out _ w7.heap.size (row_new rfl) (below_then HB7.out (box_new _) HB7.out.size)).mono ?_
  rintro e w8 ⟨rfl, hb8⟩
  have hb9 := (box_new (w := w7) (.cells #[.int .u8 (exH 17 1).h.k, .int .u8 (exH 17 1).h.op, .int .i64 (exH 17 1).h.pl, .int .i64 (exH 17 1).h.n, .string (exH 17 1).h.name, .string (exH 17 1).h.arg, .string (exH 17 1).h.exn, .int .i64 (exH 17 1).rho, .slice (exV (some ⟨W3.heap.size, 0, none⟩) 1).ra (exH 17 1).rhos.length (exV (some ⟨W3.heap.size, 0, none⟩) 1).rc, .slice (exV (some ⟨W3.heap.size, 0, none⟩) 1).ea (exH 17 1).e.length (exV (some ⟨W3.heap.size, 0, none⟩) 1).ec, .int .u8 (exH 17 1).ty.h.k, .int .i64 (exH 17 1).ty.h.r, .slice (exV (some ⟨W3.heap.size, 0, none⟩) 1).tea (exH 17 1).ty.h.e.length (exV (some ⟨W3.heap.size, 0, none⟩) 1).tec, .slice (exV (some ⟨W3.heap.size, 0, none⟩) 1).tka (exH 17 1).ty.ks.length (exV (some ⟨W3.heap.size, 0, none⟩) 1).tkc, .int .u8 (exH 17 1).re.h.k, .int .i64 (exH 17 1).re.h.r, .slice (exV (some ⟨W3.heap.size, 0, none⟩) 1).sea (exH 17 1).re.h.e.length (exV (some ⟨W3.heap.size, 0, none⟩) 1).sec, .slice (exV (some ⟨W3.heap.size, 0, none⟩) 1).ska (exH 17 1).re.ks.length (exV (some ⟨W3.heap.size, 0, none⟩) 1).skc, .slice (exV (some ⟨W3.heap.size, 0, none⟩) 1).ka 1 (exV (some ⟨W3.heap.size, 0, none⟩) 1).kc] 31)).trans (hb8.mono (by simp))
  have hce8 := (hb9.block _ (lt_of_block HCE7.out)).trans HCE7.out
  have c0 : w8.cell? ⟨N5, 0, none⟩ = some (.int .u8 4) := by simp [World.cell?, hce8]
  have c7 : w8.cell? ⟨N5, 7, none⟩ = some (.slice (some ⟨b, o, none⟩) 1 c) := by simp [World.cell?, hce8]
  have cb : w8.cell? ⟨b, o, none⟩ = some (.int .u8 3) := (hb9.cell (p := ⟨b, o, none⟩) (World.block_lt_of_cell? w7 _ HC7.out)).trans HC7.out
  have HB8 := Lib.hid (below_then HB4.out (HB7.out.trans (hb9.mono HB7.out.size)) HB4.out.size)
  clear hb8 hb9 hce8
  go_wp2_with (fail)
  go_ret
  exact ⟨rfl, HB8.out⟩
end Aterm
end Go.Proofs.YtolpdhkgkjnbfaaGreatDoor
namespace Go.Proofs.YtolpdhkgkjnbfaaGreatDoor
open Go.RowKit
set_option linter.unusedVariables false
set_option linter.unusedSimpArgs false
namespace Aterm
open Effect (RdI nget nget_at nget_mem Ixs intsV own_slice)
open Rt (box_new box_at below_then)

/-- A row of nodes that was made, as it lies later. -/
structure AllAt (w0 W : World) (g c : Nat) (F : List AT) : Prop where
  own : ∃ B xs, W.ownsRow B 31 19 (.slice (some ⟨g, 0, none⟩) F.length c) F.length xs ∧ Flat w0 xs F
theorem AllAt.below {w0 W W' : World} {g c : Nat} {F : List AT} (h : AllAt w0 W g c F) (hb : Below W.heap.size W W') : AllAt w0 W' g c F := by
  obtain ⟨B, xs, h1, h2⟩ := h.own
  exact ⟨B, xs, own_below h1 hb, h2⟩
theorem ixs_ne {B m g : Nat} {W : World} {v : Value} {l : List Int} (h : Ixs B W v m l) {cur : Array Value} {fr : Nat × Nat} (hg : W.heap[g]? = some (.cells cur 31 fr)) : some g ≠ v.ownBlock := by
  intro e
  rcases h.2 with ⟨rfl, _⟩ | ⟨k, cap, cur', rfl, _, hk, _⟩
  · simp [Value.ownBlock] at e
  · simp [Value.ownBlock] at e
    subst e
    rw [hg] at hk
    injection hk with hk
    injection hk with _ hk _
    exact absurd hk (by decide)
theorem AllAt.grown {w0 W W' : World} {g c B m : Nat} {F : List AT} {v : Value} {l : List Int} (h : AllAt w0 W g c F) (hi : Ixs B W v m l) (hg : W.grownBy W' v.ownBlock) : AllAt w0 W' g c F := by
  obtain ⟨B', xs, h1, h2⟩ := h.own
  refine ⟨B', xs, h1.kept hg ?_, h2⟩
  rcases h1.2 with ⟨e, _⟩ | ⟨k, cap, cur, e, _, hk, _⟩
  · cases e
  · injection e with e
    injection e with e
    injection e with e
    subst e
    exact .inr (ixs_ne hi hk)
theorem AllAt.get {w0 W : World} {g c : Nat} {F : List AT} (h : AllAt w0 W g c F) (j : Nat) (hj : j < F.length) :
    ∃ v, AtIs w0 (tget F j).h v (tget F j).ks.length (tget F j) ∧ W.rangeAt g (j * 19) (acells (tget F j).h v (tget F j).ks.length) := by
  obtain ⟨B, xs, h1, h2⟩ := h.own
  obtain ⟨v, h3, h4⟩ := h2.get j hj
  refine ⟨v, h3, fun i x hx => ?_⟩
  have := h1.cells (g := g) rfl _ _ (h4 i x hx)
  rw [Addr.add_lit, Nat.zero_add] at this
  exact this
end Aterm
end Go.Proofs.YtolpdhkgkjnbfaaGreatDoor
namespace Go.Proofs.YtolpdhkgkjnbfaaGreatDoor
open Go.RowKit
set_option linter.unusedVariables false
set_option linter.unusedSimpArgs false
namespace Aterm
open Effect (RdI nget nget_at nget_mem ret_bool ret_i64 lt_of_block heap_alloc_new ofA)
open Rt (box_new box_at below_then)

theorem may_flat {t : AT} (hw : wt t ≤ 40000) : mayT t = decide (∀ j, j < (flatT t).length → nodeB (tget (flatT t) j).h (tget (flatT t) j).ks.length = true) := by
  unfold mayT
  rw [decide_eq_true hw, Bool.true_and, allT_flat, Bool.eq_iff_iff, List.all_eq_true, decide_eq_true_eq]
  constructor
  · intro h j hj; exact h _ (tget_mem hj)
  · intro h x hx
    obtain ⟨j, hj, rfl⟩ := List.getElem_of_mem hx
    have h1 := tget_at hj
    rw [List.getElem?_eq_getElem hj] at h1
    rw [Option.some.inj h1]; exact h j hj
theorem small_flat {t : AT} (hc : allT smallB t = true) {j : Nat} (hj : j < (flatT t).length) : smallB (tget (flatT t) j).h (tget (flatT t) j).ks.length = true := by
  rw [allT_flat, List.all_eq_true] at hc
  exact hc _ (tget_mem hj)
set_option maxRecDepth 100000 in
set_option maxHeartbeats 3200000 in
theorem refMayA_walk (t : AT) (h : Hd) (v : V) (l : Nat) (w : World) (hT : AtIs w h v l t) (hw : wt t ≤ 40000) (hc : allT smallB t = true) :
    Calls Tryz.prog 9 #[.agg #[.int .u8 h.h.k, .int .u8 h.h.op, .int .i64 h.h.pl, .int .i64 h.h.n, .string h.h.name, .string h.h.arg, .string h.h.exn, .int .i64 h.rho, .slice v.ra h.rhos.length v.rc, .slice v.ea h.e.length v.ec, .int .u8 h.ty.h.k, .int .i64 h.ty.h.r, .slice v.tea h.ty.h.e.length v.tec, .slice v.tka h.ty.ks.length v.tkc, .int .u8 h.re.h.k, .int .i64 h.re.h.r, .slice v.sea h.re.h.e.length v.sec, .slice v.ska h.re.ks.length v.skc, .slice v.ka l v.kc]] w fun e w' => e = .returned (.bool (mayT t)) ∧ Below w.heap.size w w' := by
  have hmf := may_flat hw
  have hfl := flatT_len t
  have hsf := fun (j : Nat) (hj : j < (flatT t).length) => small_flat hc hj
  have HT := Lib.hid hT; have HWT := Lib.hid hw; have HMF := Lib.hid hmf; have HSF := Lib.hid hsf
  clear hT hw hmf hsf hc
  go_enter Tryz.func9, Tryz.ntmps9
  go_upto_region 1 with (fail)
  obtain ⟨W0, hW0⟩ : ∃ W0, W0 = w.alloc (.cells #[.int .u8 h.h.k, .int .u8 h.h.op, .int .i64 h.h.pl, .int .i64 h.h.n, .string h.h.name, .string h.h.arg, .string h.h.exn, .int .i64 h.rho, .slice v.ra h.rhos.length v.rc, .slice v.ea h.e.length v.ec, .int .u8 h.ty.h.k, .int .i64 h.ty.h.r, .slice v.tea h.ty.h.e.length v.tec, .slice v.tka h.ty.ks.length v.tkc, .int .u8 h.re.h.k, .int .i64 h.re.h.r, .slice v.sea h.re.h.e.length v.sec, .slice v.ska h.re.ks.length v.skc, .slice v.ka l v.kc] 31) := ⟨_, rfl⟩
  have hbx : Box W0 w.heap.size h v l := by rw [hW0]; exact box_of (w := w) (h := h) (v := v) (l := l)
  have hb0 : Below w.heap.size w W0 := by rw [hW0]; exact box_new _
  rw [← hW0]
  clear hW0
  generalize hN0 : w.heap.size = N0 at hbx ⊢
  have HB0 := Lib.hid hb0; have HBX := Lib.hid hbx; have HRG := Lib.hid hbx.range
  obtain ⟨b0, b1, b2, b3, b4, b5, b6, b7, b8, b9, b10, b11, b12, b13, b14, b15, b16, b17, b18⟩ := hbx
  clear hb0 hN0 b0 b1 b2 b3 b4 b5 b6 b7 b8 b9 b10 b11 b12 b13 b14 b15 b16 b17 b18
  go_wp2_with (refine at_load rfl _ rfl N0 0 rfl HRG.out ?_)
  refine (refAll_walk (wt t) t h v l w W0 (Nat.le_refl _) (by have := HWT.out; omega) HT.out HB0.out).mono ?_
  rintro e w2 ⟨g, c2, xs, rfl, hown2, hfl2, hb2⟩
  have hall : AllAt w w2 g c2 (flatT t) := ⟨_, xs, by rw [hfl]; exact hown2, hfl2⟩
  have HB2 := Lib.hid (below_then HB0.out hb2 HB0.out.size); have HALL := Lib.hid hall
  clear hown2 hfl2 hb2 hall
  generalize hF : flatT t = F at *
  obtain ⟨n, hn⟩ : ∃ n, n = wt t := ⟨_, rfl⟩
  rw [← hn] at hfl ⊢
  have hn4 : (n : Int) ≤ 40000 := by have := HWT.out; omega
  have g4 : decide ((40000 : Int) < (n : Int)) = false := decide_eq_false (by omega)
  have HFL := Lib.hid hfl
  clear hfl hn hF
  go_wp2_with (fail)
  go_loopw [4, 12] (fun _ i wr => ∃ j : Nat, j ≤ n ∧ i = .int .i64 j ∧ Hid (Below w.heap.size w wr) ∧ Hid (AllAt w wr g c2 F) ∧ Hid (∀ i, i < j → nodeB (tget F i).h (tget F i).ks.length = true)) (fun _ i _ => n - (intOf i).toNat)
  case atStart => exact ⟨0, Nat.zero_le _, rfl, HB2, HALL, Lib.hid (fun i hi => by omega)⟩
  case round =>
    obtain ⟨j, hj, rfl, HB, HA, HE⟩ := hrel
    by_cases hlt : j < n
    · have hjf : j < F.length := by rw [HFL.out]; exact hlt
      obtain ⟨v', hat, hrg⟩ := HA.out.get j hjf
      have hsm := HSF.out j hjf
      have hnode := refNodeA_walk (tget F j) _ v' _ wr (hat.below HB.out) hsm
      have hno : nodeB (tget F j).h (tget F j).ks.length = false → mayT t = false := fun hh => by
        rw [HMF.out, decide_eq_false_iff_not]
        intro ha
        have := ha j hjf
        rw [hh] at this; cases this
      have hyes : nodeB (tget F j).h (tget F j).ks.length = true → ∀ i, i < j + 1 → nodeB (tget F i).h (tget F i).ks.length = true := fun hh i hi => by
        rcases Nat.lt_or_ge i j with h1 | h1
        · exact HE.out i h1
        · rw [show i = j by omega]; exact hh
      have HNODE := Lib.hid hnode; have HRJ := Lib.hid hrg; have HNO := Lib.hid hno; have HYES := Lib.hid hyes
      clear hnode hrg hno hyes hat hsm hjf
      have j0 : (0 : Int) ≤ (j : Int) := by omega
      have j1 : (j : Int) < (n : Int) := by omega
      go_wp2_with (refine at_load rfl _ rfl g (j * 19) rfl HRJ.out ?_)
      refine HNODE.out.mono ?_
      rintro e w3 ⟨rfl, hb3⟩
      have HB3 := Lib.hid (below_then HB.out hb3 HB.out.size); have HA3 := Lib.hid (HA.out.below hb3)
      clear hb3 HNODE
      generalize nodeB (tget F j).h (tget F j).ks.length = X at *
      cases X
      · have HR := Lib.hid (HNO.out rfl)
        go_wp2_with (fail)
        go_ret
        exact ⟨ret_bool HR.out.symm, HB3.out⟩
      · have HR := Lib.hid (HYES.out rfl)
        go_wp2_with (fail)
        go_roundw
        case rel => exact ⟨j + 1, by omega, by go_num, HB3, HA3, HR⟩
        case measure => simp [intOf]; omega
    · obtain rfl : j = n := by omega
      have HR := Lib.hid (show mayT t = true by
        rw [HMF.out]
        exact decide_eq_true (fun i hi => HE.out i (by rw [HFL.out] at hi; exact hi)))
      go_wp2_with (fail)
      go_ret
      exact ⟨ret_bool HR.out.symm, HB.out⟩
set_option maxRecDepth 100000 in
set_option maxHeartbeats 6400000 in
theorem maysLaw_walk (h : Hd) (v : V) (l : Nat) (t : AT) (w : World) (hT : AtIs w h v l t) (hkw : Words.KwLaid w) :
    Calls Tryz.prog 3 #[.agg #[.int .u8 h.h.k, .int .u8 h.h.op, .int .i64 h.h.pl, .int .i64 h.h.n, .string h.h.name, .string h.h.arg, .string h.h.exn, .int .i64 h.rho, .slice v.ra h.rhos.length v.rc, .slice v.ea h.e.length v.ec, .int .u8 h.ty.h.k, .int .i64 h.ty.h.r, .slice v.tea h.ty.h.e.length v.tec, .slice v.tka h.ty.ks.length v.tkc, .int .u8 h.re.h.k, .int .i64 h.re.h.r, .slice v.sea h.re.h.e.length v.sec, .slice v.ska h.re.ks.length v.skc, .slice v.ka l v.kc]] w fun e w' => e = .returned (.bool true) ∧ Below w.heap.size w w' := by
  have haw := fun (W : World) (hb : Below w.heap.size w W) => awake_walk W (hkw.below hb)
  have hg1 := fun (W : World) (hb : Below w.heap.size w W) => great_walk t h v l W (hT.below hb)
  have HAW := Lib.hid haw; have HG1 := Lib.hid hg1; have HT := Lib.hid hT; have HKW := Lib.hid hkw
  clear haw hg1 hT hkw
  go_enter Tryz.func3, Tryz.ntmps3
  go_upto_region 1 with (fail)
  refine of_world (F := fun V => Below w.heap.size w V ∧ V.rangeAt w.heap.size 0 (acells h v l)) ⟨box_new _, row_new rfl⟩ ?_
  rintro W0 ⟨hb0, hr0⟩
  generalize hN1 : w.heap.size = N1 at hr0 ⊢
  have HC0 := Lib.hid hb0; have HR0 := Lib.hid hr0
  clear hb0 hr0 hN1
  go_wp2_with (refine at_load rfl _ rfl N1 0 rfl HR0.out ?_)
  refine (HG1.out W0 HC0.out).mono ?_
  rintro e w1 ⟨rfl, hb1⟩
  have HC1 := Lib.hid (below_then HC0.out hb1 HC0.out.size); have HR1 := Lib.hid (range_below HR0.out hb1)
  clear hb1 HC0 HR0
  clear W0
  cases hq1 : greatT t
  case true =>
    go_wp2_with (fail)
    refine (HAW.out w1 HC1.out).mono ?_
    rintro e w2 ⟨rfl, hb2⟩
    have HC2 := Lib.hid (below_then HC1.out hb2 HC1.out.size)
    clear hb2
    go_wp2_with (fail)
    go_ret
    exact ⟨rfl, HC2.out⟩
  have hs1 := small_of hq1
  have hp := fun (W : World) (hb : Below w.heap.size w W) => may_walk t h v l W (HT.out.below hb) (by omega) hs1.2 (HKW.out.below hb)
  have hd := fun (W : World) (hb : Below w.heap.size w W) => refMayA_walk t h v l W (HT.out.below hb) (by omega) hs1.2
  have HP := Lib.hid hp; have HD := Lib.hid hd
  clear hp hd hs1 hq1
  go_upto_region 3 with (fail)
  generalize mayT t = X at *
  have hxx : (X == X) = true := by simp
  have hini : Below w1.heap.size w1 w1.drew := (Below.refl _ _).drew
  refine wp_region_held_drew (S := fun (V : World) => Below w1.heap.size w1 V) (by kernel_rfl) hini (fun hHeld => ?_)
  generalize w1.drew = v0 at *
  refine wpAnyH_take (i := 0) (v := .agg #[.int .u8 h.h.k, .int .u8 h.h.op, .int .i64 h.h.pl, .int .i64 h.h.n, .string h.h.name, .string h.h.arg, .string h.h.exn, .int .i64 h.rho, .slice v.ra h.rhos.length v.rc, .slice v.ea h.e.length v.ec, .int .u8 h.ty.h.k, .int .i64 h.ty.h.r, .slice v.tea h.ty.h.e.length v.tec, .slice v.tka h.ty.ks.length v.tkc, .int .u8 h.re.h.k, .int .i64 h.re.h.r, .slice v.sea h.re.h.e.length v.sec, .slice v.ska h.re.ks.length v.skc, .slice v.ka l v.kc]) rfl (by kernel_rfl) (by kernel_rfl) (by kernel_rfl) (fun _ _ _ h => h) (Or.inl ⟨by rfl, ?_⟩) (by assumption) ?_
  · intro w' hSw
    exact exec_at _ rfl N1 0 rfl (range_below HR1.out hSw)
  try simp only [Act.put, List.getElem_toArray, List.getElem_cons_succ, List.getElem_cons_zero, List.setIfInBounds_toArray, List.set_cons_zero, List.set_cons_succ]
  refine wpAnyH_take (i := 2) (v := .agg #[.int .u8 h.h.k, .int .u8 h.h.op, .int .i64 h.h.pl, .int .i64 h.h.n, .string h.h.name, .string h.h.arg, .string h.h.exn, .int .i64 h.rho, .slice v.ra h.rhos.length v.rc, .slice v.ea h.e.length v.ec, .int .u8 h.ty.h.k, .int .i64 h.ty.h.r, .slice v.tea h.ty.h.e.length v.tec, .slice v.tka h.ty.ks.length v.tkc, .int .u8 h.re.h.k, .int .i64 h.re.h.r, .slice v.sea h.re.h.e.length v.sec, .slice v.ska h.re.ks.length v.skc, .slice v.ka l v.kc]) rfl (by kernel_rfl) (by kernel_rfl) (by kernel_rfl) (fun _ _ _ h => h) (Or.inl ⟨by rfl, ?_⟩) (by assumption) ?_
  · intro w' hSw
    exact exec_at _ rfl N1 0 rfl (range_below HR1.out hSw)
  try simp only [Act.put, List.getElem_toArray, List.getElem_cons_succ, List.getElem_cons_zero, List.setIfInBounds_toArray, List.set_cons_zero, List.set_cons_succ]
  refine wpAnyH_ready (rs := [1]) (by kernel_rfl) (by simp) ?_
  refine AllReadyH.cons rfl (fun K hK => ?_) AllReadyH.nil
  have HK2 := Lib.hid hK
  clear hK
  try rw [if_pos (by rfl)]
  go_simp
  refine (HP.out _ (below_then HC1.out hini HC1.out.size)).mono ?_
  rintro e v1 ⟨rfl, hb5⟩
  have HU1 := Lib.hid (below_then hini hb5 hini.size)
  clear hb5
  refine HK2.out _ _ HU1.out (fun hHeld => ?_)
  clear HK2
  try simp only [Act.put, List.getElem_toArray, List.getElem_cons_succ, List.getElem_cons_zero, List.setIfInBounds_toArray, List.set_cons_zero, List.set_cons_succ]
  clear K
  refine wpAnyH_ready (rs := [3]) (by kernel_rfl) (by simp) ?_
  refine AllReadyH.cons rfl (fun K hK => ?_) AllReadyH.nil
  have HK2 := Lib.hid hK
  clear hK
  try rw [if_pos (by rfl)]
  go_simp
  refine (HD.out _ (below_then HC1.out HU1.out HC1.out.size)).mono ?_
  rintro e v2 ⟨rfl, hb6⟩
  have HU2 := Lib.hid (below_then HU1.out hb6 HU1.out.size)
  clear hb6
  refine HK2.out _ _ HU2.out (fun hHeld => ?_)
  clear HK2
  try simp only [Act.put, List.getElem_toArray, List.getElem_cons_succ, List.getElem_cons_zero, List.setIfInBounds_toArray, List.set_cons_zero, List.set_cons_succ]
  clear K
  refine wpAnyH_ready (rs := [4]) (by kernel_rfl) (by simp) ?_
  refine AllReadyH.cons rfl (fun K hK => ?_) AllReadyH.nil
  have HK2 := Lib.hid hK
  clear hK
  try rw [if_pos (by rfl)]
  go_simp
  refine HK2.out _ _ HU2.out (fun hHeld => ?_)
  clear HK2
  try simp only [Act.put, List.getElem_toArray, List.getElem_cons_succ, List.getElem_cons_zero, List.setIfInBounds_toArray, List.set_cons_zero, List.set_cons_succ]
  clear K
  refine wpAnyH_ready (rs := [5]) (by kernel_rfl) (by simp) ?_
  refine AllReadyH.cons rfl (fun K hK => ?_) AllReadyH.nil
  have HK2 := Lib.hid hK
  clear hK
  try rw [if_pos (by rfl)]
  go_simp
  refine HK2.out _ _ HU2.out (fun hHeld => ?_)
  clear HK2
  try simp only [Act.put, List.getElem_toArray, List.getElem_cons_succ, List.getElem_cons_zero, List.setIfInBounds_toArray, List.set_cons_zero, List.set_cons_succ]
  clear K
  refine wpAnyH_ready (rs := [6]) (by kernel_rfl) (by simp) ?_
  refine AllReadyH.cons rfl (fun K hK => ?_) AllReadyH.nil
  have HK2 := Lib.hid hK
  clear hK
  try rw [if_pos (by rfl)]
  go_simp
  refine (HAW.out v2 (below_then HC1.out HU2.out HC1.out.size)).mono ?_
  rintro e v3 ⟨rfl, hb7⟩
  have HU3 := Lib.hid (below_then HU2.out hb7 HU2.out.size)
  clear hb7
  refine HK2.out _ _ HU3.out (fun hHeld => ?_)
  clear HK2
  try simp only [Act.put, List.getElem_toArray, List.getElem_cons_succ, List.getElem_cons_zero, List.setIfInBounds_toArray, List.set_cons_zero, List.set_cons_succ]
  clear K
  refine wpAnyH_ready (rs := [7]) (by kernel_rfl) (by simp) ?_
  refine AllReadyH.cons rfl (fun K hK => ?_) AllReadyH.nil
  have HK2 := Lib.hid hK
  clear hK
  try rw [if_pos (by rfl)]
  go_simp
  refine HK2.out _ _ HU3.out (fun hHeld => ?_)
  clear HK2
  try simp only [Act.put, List.getElem_toArray, List.getElem_cons_succ, List.getElem_cons_zero, List.setIfInBounds_toArray, List.set_cons_zero, List.set_cons_succ]
  clear K
  refine wpAnyH_ready (rs := [8]) (by kernel_rfl) (by simp) ?_
  refine AllReadyH.cons rfl (fun K hK => ?_) AllReadyH.nil
  have HK2 := Lib.hid hK
  clear hK
  try rw [if_pos (by rfl)]
  go_simp
  refine HK2.out _ _ HU3.out (fun hHeld => ?_)
  clear HK2
  try simp only [Act.put, List.getElem_toArray, List.getElem_cons_succ, List.getElem_cons_zero, List.setIfInBounds_toArray, List.set_cons_zero, List.set_cons_succ]
  clear K
  refine wpAnyH_done (by kernel_rfl) ?_ _
  clear hHeld
  go_wp2_with (fail)
  go_ret
  exact ⟨rfl, (below_then HC1.out HU3.out HC1.out.size)⟩
end Aterm
end Go.Proofs.YtolpdhkgkjnbfaaGreatDoor
namespace Go.Proofs.YtolpdhkgkjnbfaaGreatDoor
open Go.RowKit Go.ChangeShapes
namespace Words

/-- AN ARRAY OF TEXTS THAT READS AS A TABLE HOLDS THE TABLE's TEXTS, cell for cell. -/
theorem cells_of_strs {H : Type} {enc : TypeId × Value → H} {P : Program} {w : World} {base : Nat} {sp : Nat → Bool} {held : Bool} {fuel : Nat} {t e : TypeId} {n : Nat} {cs : List Value} {zs : List (List UInt8)} {p : List MemPlace}
    (ht : P.underlying t = some (.array n e)) (he : P.underlying e = some .string) (hce : P.cellsOf e = 1) (hct : P.cellsOf t = n)
    (h : DataW.trod enc P w base sp held fuel t cs = some (.agg (zs.map fun z => .lit (.string z)), p)) : cs = zs.map fun z => Value.string ⟨z.toArray⟩ := by
  cases fuel with
  | zero => simp [DataW.trod] at h
  | succ fuel =>
    simp only [DataW.trod, ht, hce, hct, Nat.mul_one] at h
    split at h
    · rename_i hl
      obtain ⟨xs, hm, hx⟩ := Option.map_eq_some_iff.1 h
      have hxs : xs.map (·.1) = zs.map fun z => (DataW.lit (.string z) : DataW H) := by
        have := congrArg Prod.fst hx
        simpa using this
      have hxl : xs.length = n := by simpa using Lib.mapM_length hm
      have hzl : zs.length = n := by
        have := congrArg List.length hxs
        simp at this
        omega
      apply List.ext_getElem?
      intro i
      by_cases hi : i < n
      · obtain ⟨b, hb, hf⟩ := Lib.mapM_at hm i i (by simp [hi])
        obtain ⟨z, hc, rfl, _⟩ := DataW.trod_string he hf
        have h1 : cs[i]? = some (.string z) := by
          have := congrArg (·[0]?) hc
          simpa [List.getElem?_take, List.getElem?_drop] using this
        have h2 : (xs.map (·.1))[i]? = some (DataW.lit (.string z.data.toList) : DataW H) := by simp [hb]
        rw [hxs] at h2
        simp only [List.getElem?_map, Option.map_eq_some_iff, DataW.lit.injEq, Lit.string.injEq] at h2
        obtain ⟨z', hz', e⟩ := h2
        simp [h1, hz', e]
      · rw [List.getElem?_eq_none (by omega), List.getElem?_eq_none (by simp; omega)]
    · cases h

theorem gKw : Tryz.prog.globalNamed "enclave/words.keywords" = some 0 := by kernel_rfl
theorem tKw : (Tryz.prog.globals[0]?).map (·.type) = some 123 := by kernel_rfl
theorem kwLaid_of {W : World} {r : List (String × DataW Unit)} (h : laidMet Tryz.prog (("enclave/words.keywords", Rows.laid_enclave_words_keywords) :: r) W) : KwLaid W := by
  obtain ⟨ps, ⟨g', t', cs, fuel, p, q, hg', ht', hvar, hd, _, _⟩, _⟩ := h
  obtain rfl := Option.some.inj (gKw.symm.trans hg')
  obtain rfl := Option.some.inj (tKw.symm.trans ht')
  have hcs := cells_of_strs (zs := kwTexts) Tryz.underlying123 Tryz.underlying9 (by kernel_rfl) (by kernel_rfl) hd
  intro k hk
  have := World.var?_cell gKw hvar k
  obtain ⟨l⟩ := cs
  simp only at hcs
  subst hcs
  have hk' : k < kwTexts.length := hk
  rw [this]
  simp [kwT, List.getD, hk']

end Words
end Go.Proofs.YtolpdhkgkjnbfaaGreatDoor
namespace Go.Proofs.YtolpdhkgkjnbfaaGreatDoor
open Go.RowKit
set_option linter.unusedVariables false
set_option linter.unusedSimpArgs false
namespace Aterm
open Effect (RdI nget nget_at nget_mem ret_bool ret_i64 lt_of_block heap_alloc_new ofA)
open Rt (box_new box_at below_then)
open Term (Tm TmIs)

theorem plainN_nil : plainN [] = 0 := rfl
theorem plainN_cons (t : AT) (ts : List AT) : plainN (t :: ts) = (if t.h.h.k ≠ 17 then 1 else 0) + plainN ts := by
  unfold plainN
  by_cases h : t.h.h.k = 17
  · rw [List.filter_cons_of_neg (by simpa using h), if_neg (by simpa using h)]; omega
  · rw [List.filter_cons_of_pos (by simpa using h), if_pos h, List.length_cons]; omega
theorem plainN_append : ∀ ts us : List AT, plainN (ts ++ us) = plainN ts + plainN us
  | [], us => by rw [plainN_nil]; simp
  | t :: ts, us => by rw [List.cons_append, plainN_cons, plainN_cons, plainN_append ts us]; omega
theorem node_head {h : Hd} {l : Nat} (hn : nodeB h l = true) : headOk h.h l = true := by
  unfold nodeB at hn
  simp only [Bool.and_eq_true] at hn
  exact hn.1.1.1.1.1
theorem erase_ok : ∀ m : Nat, (∀ t : AT, wt t ≤ m → allT nodeB t = true → plainN (flatT t) = Term.wt (eraseT t) ∧ Term.okT (eraseT t) = true) ∧ (∀ ts : List AT, wts ts ≤ m → allK nodeB ts = true → plainN (flatK ts) = Term.wts (eraseK ts) ∧ Term.okK (eraseK ts) = true) := by
  intro m
  induction m with
  | zero =>
    refine ⟨fun t h => by have := wt_pos t; omega, fun ts h => ?_⟩
    cases ts with
    | nil => intro _; rw [flatK_nil, eraseK_nil, Term.wts_nil]; exact ⟨rfl, Term.okK_nil⟩
    | cons t ts => rw [wts_cons] at h; have := wt_pos t; omega
  | succ m ih =>
    have hT : ∀ t : AT, wt t ≤ m + 1 → allT nodeB t = true → plainN (flatT t) = Term.wt (eraseT t) ∧ Term.okT (eraseT t) = true := by
      intro t hm hs
      rw [allT_eq, Bool.and_eq_true] at hs
      have hk := wt_ks t
      have hh := node_head hs.1
      obtain ⟨h1, h2⟩ := ih.2 t.ks (by omega) hs.2
      rw [flatT_eq, plainN_cons]
      by_cases h17 : t.h.h.k = 17
      · rw [head_17 h17] at hh
        simp only [Bool.and_eq_true, decide_eq_true_eq] at hh
        have hl := hh.2
        rw [if_neg (by simpa using h17)]
        cases hks : t.ks with
        | nil => rw [hks] at hl; simp at hl
        | cons u us =>
          have hus : us = [] := by rw [hks] at hl; simpa using hl
          subst hus
          rw [hks, flatK_cons, flatK_nil, List.append_nil, eraseK_cons, eraseK_nil, Term.wts_cons, Term.wts_nil] at h1
          rw [hks, eraseK_cons, eraseK_nil, Term.okK_cons, Term.okK_nil, Bool.and_true] at h2
          rw [flatK_cons, flatK_nil, List.append_nil, eraseT_reg h17 hks]
          exact ⟨by omega, h2⟩
      · rw [if_pos h17, eraseT_no (fun hh => h17 hh.1), Term.wt_ks]
        refine ⟨?_, ?_⟩
        · show 1 + plainN (flatK t.ks) = Term.wts (eraseK t.ks) + 1
          omega
        · rw [Term.okT_eq]
          show (Term.nodeB (bareH t.h) (eraseK t.ks).length && Term.okK (eraseK t.ks)) = true
          rw [h2, Bool.and_true, eraseK_map, List.length_map]
          have hb : bareH t.h = likeH t.h.h := by
            unfold bareH likeH likeK
            rw [if_neg h17]
            split <;> rfl
          rw [hb]
          exact hh
    refine ⟨hT, fun ts => ?_⟩
    induction ts with
    | nil => intro _ _; rw [flatK_nil, eraseK_nil, Term.wts_nil]; exact ⟨rfl, Term.okK_nil⟩
    | cons t ts iht =>
      intro hm hs
      rw [wts_cons] at hm
      rw [allK_cons, Bool.and_eq_true] at hs
      obtain ⟨h1, h2⟩ := hT t (by omega) hs.1
      obtain ⟨h3, h4⟩ := iht (by omega) hs.2
      rw [flatK_cons, plainN_append, eraseK_cons, Term.wts_cons, Term.okK_cons, h2, h4, h1, h3]
      exact ⟨rfl, rfl⟩
theorem plainN_take (F : List AT) (j : Nat) (hj : j < F.length) : plainN (F.take (j + 1)) = plainN (F.take j) + (if (tget F j).h.h.k ≠ 17 then 1 else 0) := by
  rw [take_tget F j hj, plainN_append, plainN_cons, plainN_nil, Nat.add_zero]
theorem plainN_le : ∀ F : List AT, plainN F ≤ F.length
  | [] => Nat.le_refl _
  | t :: F => by
    rw [plainN_cons, List.length_cons]
    have := plainN_le F
    split <;> omega
set_option maxRecDepth 100000 in
set_option maxHeartbeats 6400000 in
theorem nodesLaw_walk (h : Hd) (v : V) (l : Nat) (t : AT) (w : World) (hT : AtIs w h v l t) (hkw : Words.KwLaid w) :
    Calls Tryz.prog 5 #[.agg #[.int .u8 h.h.k, .int .u8 h.h.op, .int .i64 h.h.pl, .int .i64 h.h.n, .string h.h.name, .string h.h.arg, .string h.h.exn, .int .i64 h.rho, .slice v.ra h.rhos.length v.rc, .slice v.ea h.e.length v.ec, .int .u8 h.ty.h.k, .int .i64 h.ty.h.r, .slice v.tea h.ty.h.e.length v.tec, .slice v.tka h.ty.ks.length v.tkc, .int .u8 h.re.h.k, .int .i64 h.re.h.r, .slice v.sea h.re.h.e.length v.sec, .slice v.ska h.re.ks.length v.skc, .slice v.ka l v.kc]] w fun e w' => e = .returned (.bool true) ∧ Below w.heap.size w w' := by
  have haw := fun (W : World) (hb : Below w.heap.size w W) => awake_walk W (hkw.below hb)
  have hg1 := fun (W : World) (hb : Below w.heap.size w W) => great_walk t h v l W (hT.below hb)
  have HAW := Lib.hid haw; have HG1 := Lib.hid hg1; have HT := Lib.hid hT
  clear haw hg1 hT hkw
  go_enter Tryz.func5, Tryz.ntmps5
  go_upto_region 1 with (fail)
  refine of_world (F := fun V => Below w.heap.size w V ∧ V.rangeAt w.heap.size 0 (acells h v l)) ⟨box_new _, row_new rfl⟩ ?_
  rintro W0 ⟨hb0, hr0⟩
  generalize hN1 : w.heap.size = N1 at hr0 ⊢
  have HC0 := Lib.hid hb0; have HR0 := Lib.hid hr0
  clear hb0 hr0 hN1
  go_wp2_with (refine at_load rfl _ rfl N1 0 rfl HR0.out ?_)
  refine (HG1.out W0 HC0.out).mono ?_
  rintro e w1 ⟨rfl, hb1⟩
  have HC1 := Lib.hid (below_then HC0.out hb1 HC0.out.size); have HR1 := Lib.hid (range_below HR0.out hb1)
  clear hb1 HC0 HR0
  clear W0
  cases hq1 : greatT t
  case true =>
    go_wp2_with (fail)
    refine (HAW.out w1 HC1.out).mono ?_
    rintro e w2 ⟨rfl, hb2⟩
    have HC2 := Lib.hid (below_then HC1.out hb2 HC1.out.size)
    clear hb2
    go_wp2_with (fail)
    go_ret
    exact ⟨rfl, HC2.out⟩
  have hs1 := small_of hq1
  have hd := fun (W : World) (hb : Below w.heap.size w W) => refMayA_walk t h v l W (HT.out.below hb) (by omega) hs1.2
  have HD := Lib.hid hd; have HS := Lib.hid hs1
  clear hd hs1 hq1
  go_wp2_with (refine at_load_g (by first | rfl | simp [Region.wanted, yielded, Act.put]) _ rfl N1 0 rfl HR1.out ?_)
  refine (HD.out w1 HC1.out).mono ?_
  rintro e w2 ⟨rfl, hb2⟩
  have HC2 := Lib.hid (below_then HC1.out hb2 HC1.out.size); have HR2 := Lib.hid (range_below HR1.out hb2)
  clear hb2
  cases hm : mayT t
  case false =>
    go_wp2_with (fail)
    refine (HAW.out w2 HC2.out).mono ?_
    rintro e w3 ⟨rfl, hb3⟩
    have HC3 := Lib.hid (below_then HC2.out hb3 HC2.out.size)
    clear hb3
    go_wp2_with (fail)
    go_ret
    exact ⟨rfl, HC3.out⟩
  have hall : allT nodeB t = true := by unfold mayT at hm; rw [Bool.and_eq_true] at hm; exact hm.2
  obtain ⟨hpl, hok⟩ := (erase_ok _).1 t (Nat.le_refl _) hall
  have hfl := flatT_len t
  have hple := plainN_le (flatT t)
  rw [hfl] at hple
  have her := fun (W : World) (hb : Below w.heap.size w W) => erase_walk _ t h v l W (Nat.le_refl _) (by have := HS.out.1; omega) (HT.out.below hb)
  have hEw : Term.wt (eraseT t) ≤ 400 := by have := HS.out.1; omega
  have hEm : Term.mayT (eraseT t) = true := by unfold Term.mayT; rw [hok, decide_eq_true (by omega)]; rfl
  obtain ⟨E, hE⟩ : ∃ E, E = eraseT t := ⟨_, rfl⟩
  rw [← hE] at her hEw hEm hpl
  have HER := Lib.hid her; have HEW := Lib.hid hEw; have HEM := Lib.hid hEm; have HPL := Lib.hid hpl; have HPLE := Lib.hid hple
  clear her hEw hEm hpl hple hok hall hE hm
  go_wp2_with (refine at_load rfl _ rfl N1 0 rfl HR2.out ?_)
  refine (refAll_walk (wt t) t h v l w w2 (Nat.le_refl _) (by have := HS.out.1; omega) HT.out HC2.out).mono ?_
  rintro e w3 ⟨g, c3, xs, rfl, hown3, hfl3, hb3⟩
  have hall : AllAt w w3 g c3 (flatT t) := ⟨_, xs, by rw [hfl]; exact hown3, hfl3⟩
  have HC3 := Lib.hid (below_then HC2.out hb3 HC2.out.size); have HALL := Lib.hid hall; have HR3 := Lib.hid (range_below HR2.out hb3)
  clear hown3 hfl3 hb3 hall
  generalize hF : flatT t = F at *
  obtain ⟨n, hn⟩ : ∃ n, n = wt t := ⟨_, rfl⟩
  rw [← hn] at hfl ⊢
  have hn4 : (n : Int) ≤ 400 := by have := HS.out.1; omega
  have HFL := Lib.hid hfl; have HN := Lib.hid hn
  clear hfl hn hF
  go_wp2_with (fail)
  go_loopw [4, 5] (fun s4 i wr => ∃ j : Nat, j ≤ n ∧ i = .int .i64 j ∧ s4 = .int .i64 (plainN (F.take j) : Nat) ∧ wr = w3) (fun _ i _ => n - (intOf i).toNat)
  case atStart => exact ⟨0, Nat.zero_le _, rfl, by simp [plainN_nil], rfl⟩
  case round =>
    obtain ⟨j, hj, rfl, rfl, rfl⟩ := hrel
    by_cases hlt : j < n
    · have hjf : j < F.length := by rw [HFL.out]; exact hlt
      obtain ⟨v', hat, hrg⟩ := HALL.out.get j hjf
      have c0 : wr.cell? ⟨g, j * 19, none⟩ = some (.int .u8 (tget F j).h.h.k) := by have := hrg 0 _ rfl; simpa using this
      have htk := plainN_take F j hjf
      have hle := plainN_le (F.take j)
      rw [List.length_take] at hle
      have hle4 : ((plainN (F.take j) : Nat) : Int) ≤ 400 := by omega
      have HTK := Lib.hid htk
      have j0 : (0 : Int) ≤ (j : Int) := by omega
      have j1 : (j : Int) < (n : Int) := by omega
      clear hat hrg htk hle hjf
      generalize hP : plainN (F.take j) = P at *
      clear hP
      by_cases h17 : (tget F j).h.h.k = 17
      · have e17 : ((tget F j).h.h.k != 17) = false := by rw [h17]; rfl
        have hP2 := HTK.out
        rw [if_neg (by simpa using h17)] at hP2
        have HP2 := Lib.hid hP2
        clear h17 hP2
        generalize (tget F j).h.h.k = k at *
        go_wp2_with (fail)
        go_roundw
        case rel => exact ⟨j + 1, by omega, by go_num, by rw [HP2.out]; rfl, by first | rfl | trivial⟩
        case measure => simp [intOf]; omega
      · have e17 : ((tget F j).h.h.k != 17) = true := by simpa using h17
        have hP2 := HTK.out
        rw [if_pos h17] at hP2
        have HP2 := Lib.hid hP2
        clear h17 hP2
        generalize (tget F j).h.h.k = k at *
        go_wp2_with (fail)
        go_roundw
        case rel => exact ⟨j + 1, by omega, by go_num, by rw [HP2.out]; first | rfl | (simp; done) | go_num, by first | rfl | trivial⟩
        case measure => simp [intOf]; omega
    · obtain rfl : j = n := by omega
      have hall : F.take j = F := List.take_of_length_le (by rw [HFL.out]; exact Nat.le_refl _)
      rw [hall]
      have hpw := HPL.out
      rw [hpw]
      clear hall hpw
      go_wp2_with (refine at_load rfl _ rfl N1 0 rfl HR3.out ?_)
      refine (HER.out wr HC3.out).mono ?_
      rintro e w4 ⟨q, c, rfl, hD, hb4⟩
      have hD' := hD.reads' (Term.veil_reads _ _)
      go_upto_region 11 with (fail)
      refine of_world (F := fun V => Below w4.heap.size w4 V ∧ V.heap[w4.heap.size]? = some (.cells #[.int .u8 E.h.k, .int .u8 E.h.op, .int .i64 E.h.pl, .int .i64 E.h.n, .string E.h.name, .string E.h.arg, .string E.h.exn, .slice q E.ks.length c] 38 (0, 0))) ⟨box_new _, heap_alloc_new _ _⟩ ?_
      rintro W5 ⟨hb5, hn5⟩
      have hb45 := hb4.trans (hb5.mono hb4.size)
      have HC5 := Lib.hid (below_then HC3.out hb45 HC3.out.size); have HD5 := Lib.hid (hD'.below hb5); have HN5 := Lib.hid hn5
      generalize hN3 : w4.heap.size = N3 at HN5 ⊢
      clear hb4 hb5 hb45 hn5 hD hD' hN3 HC3 HALL
      obtain ⟨⟨o0, o1, o2, o3, o4, o5, o6, o7⟩, -⟩ := cells8t HN5.out
      go_wp2_with (fail)
      refine (Term.refAll_walk (Term.wt E) E _ _ _ _ W5 W5 (Nat.le_refl _) (by have := HEW.out; omega) HD5.out (Below.refl _ _)).mono ?_
      rintro e w6 ⟨g6, c6, xs6, rfl, -, -, hb6⟩
      have HC6 := Lib.hid (below_then HC5.out hb6 HC5.out.size)
      have HD6 := Lib.hid (HD5.out.below hb6)
      have hm6 := Term.refMay_walk E _ _ _ _ w6 HD6.out (by have := HEW.out; omega)
      rw [HEM.out] at hm6
      have HM6 := Lib.hid hm6
      clear o0 o1 o2 o3 o4 o5 o6 o7 hm6
      obtain ⟨⟨o0, o1, o2, o3, o4, o5, o6, o7⟩, -⟩ := cells8t ((hb6.block _ (lt_of_block HN5.out)).trans HN5.out)
      clear hb6
      have hX : ((Term.wt E : Nat) : Int) ≤ 400 := by have := HEW.out; omega
      generalize Term.wt E = X at *
      have e1 : ((X : Int) == (X : Int)) = true := by simp
      have e2 : decide ((X : Int) ≤ 4000) = true := decide_eq_true (by omega)
      go_wp2_with (fail)
      refine HM6.out.mono ?_
      rintro e w7 ⟨rfl, hb7⟩
      have HC7 := Lib.hid (below_then HC6.out hb7 HC6.out.size)
      clear hb7 o0 o1 o2 o3 o4 o5 o6 o7
      go_wp2_with (fail)
      refine (HAW.out w7 HC7.out).mono ?_
      rintro e w8 ⟨rfl, hb8⟩
      have HC8 := Lib.hid (below_then HC7.out hb8 HC7.out.size)
      clear hb8
      go_wp2_with (fail)
      go_ret
      exact ⟨rfl, HC8.out⟩
end Aterm
end Go.Proofs.YtolpdhkgkjnbfaaGreatDoor
