/-The walk of the document's example. (Written by wip/tools/atawake.py.) The walk of 'which regions any terms bind, ..'. (Written by wip/tools/atbindslaw.py.) The walk of 'a term's nodes are one, and its kids'; ..'. (Written by wip/tools/atpartslaw.py.) From what a row lists of the keywords to what layer 2's walks ask of the world. -/
import Derived.Test.YtolpdhkgkjnbfaaDoorGC12
import Derived.Test.YtolpdhkgkjnbfaaDoorGC06
import Derived.Test.YtolpdhkgkjnbfaaDoorGC07
import Derived.Test.YtolpdhkgkjnbfaaDoorGC05
import Derived.Test.YtolpdhkgkjnbfaaDoorGC09
import Derived.Test.YtolpdhkgkjnbfaaDoorGC11
import Derived.Deep.RegionHeld3
import Derived.Deep.DeepCutAuto
import Derived.Test.YtolpdhkgkjnbfaaDoorGC00
import Derived.Stop.LaidErr
import Derived.LaidMore
import Derived.LaidByTextLater
namespace Go.Proofs.YtolpdhkgkjnbfaaDoor
open Go.RowKit
set_option linter.unusedVariables false
set_option linter.unusedSimpArgs false
namespace Aterm
open Effect (RdI nget nget_at nget_mem ret_bool ret_i64 lt_of_block heap_alloc_new ofA)
open Rt (box_new box_at below_then)

set_option maxRecDepth 100000 in
set_option maxHeartbeats 12800000 in
theorem awake_walk (w : World) (hkw : Words.KwLaid w) : Calls Tryd.prog 6 #[] w fun e w' => e = .returned (.bool true) ∧ Below w.heap.size w w' := by
  have HKW := Lib.hid hkw
  clear hkw
  go_enter Tryd.func6, Tryd.ntmps6
  go_upto_region 2 with (refine at_store rfl _ _ rfl _ rfl (exH 1 0) (exV none 0) 0 rfl rfl ?_)
  obtain ⟨W1, hW1⟩ : ∃ W1, W1 = w.alloc (.cells #[.int .u8 (exH 1 0).h.k, .int .u8 (exH 1 0).h.op, .int .i64 (exH 1 0).h.pl, .int .i64 (exH 1 0).h.n, .string (exH 1 0).h.name, .string (exH 1 0).h.arg, .string (exH 1 0).h.exn, .int .i64 (exH 1 0).rho, .slice (exV none 0).ra (exH 1 0).rhos.length (exV none 0).rc, .slice (exV none 0).ea (exH 1 0).e.length (exV none 0).ec, .int .u8 (exH 1 0).ty.h.k, .int .i64 (exH 1 0).ty.h.r, .slice (exV none 0).tea (exH 1 0).ty.h.e.length (exV none 0).tec, .slice (exV none 0).tka (exH 1 0).ty.ks.length (exV none 0).tkc, .int .u8 (exH 1 0).re.h.k, .int .i64 (exH 1 0).re.h.r, .slice (exV none 0).sea (exH 1 0).re.h.e.length (exV none 0).sec, .slice (exV none 0).ska (exH 1 0).re.ks.length (exV none 0).skc, .slice (exV none 0).ka 0 (exV none 0).kc] 33) := ⟨_, rfl⟩
  have hr1 : W1.rangeAt w.heap.size 0 (acells (exH 1 0) (exV none 0) 0) := by rw [hW1]; exact row_new rfl
  have hb1 : Below w.heap.size w W1 := by rw [hW1]; exact box_new _
  rw [← hW1]
  have HR1 := Lib.hid hr1; have HB1 := Lib.hid hb1
  clear hW1 hr1 hb1
  generalize hN1 : w.heap.size = N1 at HR1 ⊢
  have HN1 := Lib.hid hN1
  clear hN1
  go_upto_region 3 with (first | refine at_load rfl _ rfl N1 0 rfl HR1.out ?_ | refine at_store2 rfl _ _ rfl _ rfl (exH 3 1) (exV (some ⟨W1.heap.size, 0, none⟩) 2) 2 _ (by simp) rfl rfl ?_)
  refine of_world (F := fun V => Below W1.heap.size W1 V ∧ AtIs V (exH 3 1) (exV (some ⟨W1.heap.size, 0, none⟩) 2) 2 exP ∧ V.rangeAt (W1.heap.size + 1) 0 (acells (exH 3 1) (exV (some ⟨W1.heap.size, 0, none⟩) 2) 2))
    ⟨(box_new _).trans ((box_new _).mono (by simp)), (ex_is (k := 3) (rho := 1) (p := some ⟨W1.heap.size, 0, none⟩) (c := 2) (ts := [exN, exN]) (by decide) (by decide) ⟨Nat.le_refl _, by unfold maxLen; show 2 ≤ _; omega⟩ (kids_twice rfl)).below (box_new _), row_new (by simp)⟩ ?_
  rintro W2 ⟨hb2, hj2, hr2⟩
  have HR2 := Lib.hid hr2; have HJ2 := Lib.hid hj2; have HB2 := Lib.hid (below_then HB1.out hb2 HB1.out.size)
  clear hr2 hj2 hb2
  generalize hN2 : W1.heap.size + 1 = N2 at HR2 ⊢
  clear hN2
  go_upto_region 4 with (first | refine at_load rfl _ rfl N2 0 rfl HR2.out ?_ | refine at_store2 rfl _ _ rfl _ rfl (exH 4 0) (exV (some ⟨W2.heap.size, 0, none⟩) 1) 1 _ (by simp) rfl rfl ?_)
  refine of_world (F := fun V => Below W2.heap.size W2 V ∧ AtIs V (exH 4 0) (exV (some ⟨W2.heap.size, 0, none⟩) 1) 1 exF ∧ V.rangeAt (W2.heap.size + 1) 0 (acells (exH 4 0) (exV (some ⟨W2.heap.size, 0, none⟩) 1) 1))
    ⟨(box_new _).trans ((box_new _).mono (by simp)), (ex_is (k := 4) (rho := 0) (p := some ⟨W2.heap.size, 0, none⟩) (c := 1) (ts := [exP]) (by decide) (by decide) ⟨Nat.le_refl _, by unfold maxLen; show 1 ≤ _; omega⟩ (kids_new HJ2.out rfl)).below (box_new _), row_new (by simp)⟩ ?_
  rintro W3 ⟨hb3, hj3, hr3⟩
  have HR3 := Lib.hid hr3; have HJ3 := Lib.hid hj3; have HB3 := Lib.hid (below_then HB2.out hb3 HB2.out.size)
  clear hr3 hj3 hb3
  generalize hN3 : W2.heap.size + 1 = N3 at HR3 ⊢
  clear hN3
  go_upto_region 5 with (first | refine at_load rfl _ rfl N3 0 rfl HR3.out ?_ | refine at_store2 rfl _ _ rfl _ rfl (exH 17 1) (exV (some ⟨W3.heap.size, 0, none⟩) 1) 1 _ (by simp) rfl rfl ?_)
  refine of_world (F := fun V => Below W3.heap.size W3 V ∧ AtIs V (exH 17 1) (exV (some ⟨W3.heap.size, 0, none⟩) 1) 1 exT ∧ V.rangeAt (W3.heap.size + 1) 0 (acells (exH 17 1) (exV (some ⟨W3.heap.size, 0, none⟩) 1) 1))
    ⟨(box_new _).trans ((box_new _).mono (by simp)), (ex_is (k := 17) (rho := 1) (p := some ⟨W3.heap.size, 0, none⟩) (c := 1) (ts := [exF]) (by decide) (by decide) ⟨Nat.le_refl _, by unfold maxLen; show 1 ≤ _; omega⟩ (kids_new HJ3.out rfl)).below (box_new _), row_new (by simp)⟩ ?_
  rintro W4 ⟨hb4, hj4, hr4⟩
  have HR4 := Lib.hid hr4; have HJ4 := Lib.hid hj4; have HB4 := Lib.hid (below_then HB3.out hb4 HB3.out.size)
  clear hr4 hj4 hb4
  generalize hN4 : W3.heap.size + 1 = N4 at HR4 ⊢
  clear hN4
  have her : Calls Tryd.prog 17 #[.agg #[.int .u8 (exH 17 1).h.k, .int .u8 (exH 17 1).h.op, .int .i64 (exH 17 1).h.pl, .int .i64 (exH 17 1).h.n, .string (exH 17 1).h.name, .string (exH 17 1).h.arg, .string (exH 17 1).h.exn, .int .i64 (exH 17 1).rho, .slice (exV (some ⟨W3.heap.size, 0, none⟩) 1).ra (exH 17 1).rhos.length (exV (some ⟨W3.heap.size, 0, none⟩) 1).rc, .slice (exV (some ⟨W3.heap.size, 0, none⟩) 1).ea (exH 17 1).e.length (exV (some ⟨W3.heap.size, 0, none⟩) 1).ec, .int .u8 (exH 17 1).ty.h.k, .int .i64 (exH 17 1).ty.h.r, .slice (exV (some ⟨W3.heap.size, 0, none⟩) 1).tea (exH 17 1).ty.h.e.length (exV (some ⟨W3.heap.size, 0, none⟩) 1).tec, .slice (exV (some ⟨W3.heap.size, 0, none⟩) 1).tka (exH 17 1).ty.ks.length (exV (some ⟨W3.heap.size, 0, none⟩) 1).tkc, .int .u8 (exH 17 1).re.h.k, .int .i64 (exH 17 1).re.h.r, .slice (exV (some ⟨W3.heap.size, 0, none⟩) 1).sea (exH 17 1).re.h.e.length (exV (some ⟨W3.heap.size, 0, none⟩) 1).sec, .slice (exV (some ⟨W3.heap.size, 0, none⟩) 1).ska (exH 17 1).re.ks.length (exV (some ⟨W3.heap.size, 0, none⟩) 1).skc, .slice (exV (some ⟨W3.heap.size, 0, none⟩) 1).ka 1 (exV (some ⟨W3.heap.size, 0, none⟩) 1).kc]] W4 fun e w' => ∃ b o c, e = .returned (.agg #[.int .u8 4, .int .u8 0, .int .i64 0, .int .i64 0, .string ⟨#[]⟩, .string ⟨#[]⟩, .string ⟨#[]⟩, .slice (some ⟨b, o, none⟩) 1 c]) ∧ w'.cell? ⟨b, o, none⟩ = some (.int .u8 3) ∧ Below W4.heap.size W4 w' := by
    refine (erase_walk (wt exT) exT _ _ _ W4 (Nat.le_refl _) (by rw [wt_T]; omega) HJ4.out).mono ?_
    rintro e w' ⟨q, c, he, hT, hb⟩
    rw [erase_ex] at he hT
    obtain ⟨b, o, q', c', hq, -, hc, -⟩ := hT.kids.get 0 (by decide)
    subst hq
    exact ⟨b, o, c, he, by have := Term.veil_reads _ _ _ _ hc; rw [Nat.zero_mul, Nat.add_zero] at this; exact this, hb⟩
  have hmay := fun (W : World) (hb : Below W4.heap.size W4 W) => may_walk exT _ _ _ W (HJ4.out.below hb) (by rw [wt_T]; omega) small_ex (HKW.out.below (below_then HB4.out hb HB4.out.size))
  have h5 : wts [exT] = 5 := by rw [wts_cons, wts_nil, wt_T]
  have hsize := fun (W : World) (N : Nat) (hN : W.rangeAt N 0 (acells (exH 17 1) (exV (some ⟨W3.heap.size, 0, none⟩) 1) 1)) (hb : Below W4.heap.size W4 W) => size_walk [exT] (some ⟨N, 0, none⟩) 1 1 W4 W rfl Rt.one_le (fun W' hW' => row_one HJ4.out (range_below hN hW')) hb (by rw [h5]; omega) (by rw [allK_of1]; exact small_ex)
  rw [h5] at hsize
  rw [may_ex] at hmay
  have HER := Lib.hid her; have HMAY := Lib.hid hmay; have HSIZE := Lib.hid hsize
  clear her hmay hsize h5
  go_wp2_with (refine at_load rfl _ rfl N4 0 rfl HR4.out ?_)
  refine HER.out.mono ?_
  rintro e w5 ⟨b, o, c, rfl, hc, hb5⟩
  have hcE := heap_alloc_new w5 (.cells #[.int .u8 4, .int .u8 0, .int .i64 0, .int .i64 0, .string ⟨#[]⟩, .string ⟨#[]⟩, .string ⟨#[]⟩, .slice (some ⟨b, o, none⟩) 1 c] 44)
  have hb6 := box_new (w := w5) (.cells #[.int .u8 4, .int .u8 0, .int .i64 0, .int .i64 0, .string ⟨#[]⟩, .string ⟨#[]⟩, .string ⟨#[]⟩, .slice (some ⟨b, o, none⟩) 1 c] 44)
  go_upto_region 6 with (fail)
  generalize hW6 : w5.alloc (.cells #[.int .u8 4, .int .u8 0, .int .i64 0, .int .i64 0, .string ⟨#[]⟩, .string ⟨#[]⟩, .string ⟨#[]⟩, .slice (some ⟨b, o, none⟩) 1 c] 44) = W6 at hcE hb6 ⊢
  clear hW6
  generalize hN5 : w5.heap.size = N5 at hcE hb6 ⊢
  have HCE := Lib.hid hcE
  have HC := Lib.hid ((hb6.cell (p := ⟨b, o, none⟩) (by rw [← hN5]; exact World.block_lt_of_cell? w5 _ hc)).trans hc)
  have HB6 := Lib.hid (below_then hb5 (by rw [hN5]; exact hb6) hb5.size)
  have HR6 := Lib.hid (range_below HR4.out HB6.out)
  clear hcE hb6 hc hb5 hN5
  go_wp2_with (refine at_load rfl _ rfl N4 0 rfl HR6.out ?_)
  refine (HMAY.out W6 HB6.out).mono ?_
  rintro e w7 ⟨rfl, hb7⟩
  have HB7 := Lib.hid (below_then HB6.out hb7 HB6.out.size)
  have HCE7 := Lib.hid ((hb7.block _ (lt_of_block HCE.out)).trans HCE.out)
  have HC7 := Lib.hid ((hb7.cell (p := ⟨b, o, none⟩) (World.block_lt_of_cell? W6 _ HC.out)).trans HC.out)
  have HR7 := Lib.hid (range_below HR4.out HB7.out)
  clear hb7
  go_wp2_with (refine at_load_g (by rfl) _ rfl N4 0 rfl HR7.out ?_)
  refine (HSIZE.out _ w7.heap.size (row_new rfl) (below_then HB7.out (box_new _) HB7.out.size)).mono ?_
  rintro e w8 ⟨rfl, hb8⟩
  have hb9 := (box_new (w := w7) (.cells #[.int .u8 (exH 17 1).h.k, .int .u8 (exH 17 1).h.op, .int .i64 (exH 17 1).h.pl, .int .i64 (exH 17 1).h.n, .string (exH 17 1).h.name, .string (exH 17 1).h.arg, .string (exH 17 1).h.exn, .int .i64 (exH 17 1).rho, .slice (exV (some ⟨W3.heap.size, 0, none⟩) 1).ra (exH 17 1).rhos.length (exV (some ⟨W3.heap.size, 0, none⟩) 1).rc, .slice (exV (some ⟨W3.heap.size, 0, none⟩) 1).ea (exH 17 1).e.length (exV (some ⟨W3.heap.size, 0, none⟩) 1).ec, .int .u8 (exH 17 1).ty.h.k, .int .i64 (exH 17 1).ty.h.r, .slice (exV (some ⟨W3.heap.size, 0, none⟩) 1).tea (exH 17 1).ty.h.e.length (exV (some ⟨W3.heap.size, 0, none⟩) 1).tec, .slice (exV (some ⟨W3.heap.size, 0, none⟩) 1).tka (exH 17 1).ty.ks.length (exV (some ⟨W3.heap.size, 0, none⟩) 1).tkc, .int .u8 (exH 17 1).re.h.k, .int .i64 (exH 17 1).re.h.r, .slice (exV (some ⟨W3.heap.size, 0, none⟩) 1).sea (exH 17 1).re.h.e.length (exV (some ⟨W3.heap.size, 0, none⟩) 1).sec, .slice (exV (some ⟨W3.heap.size, 0, none⟩) 1).ska (exH 17 1).re.ks.length (exV (some ⟨W3.heap.size, 0, none⟩) 1).skc, .slice (exV (some ⟨W3.heap.size, 0, none⟩) 1).ka 1 (exV (some ⟨W3.heap.size, 0, none⟩) 1).kc] 33)).trans (hb8.mono (by simp))
  have hce8 := (hb9.block _ (lt_of_block HCE7.out)).trans HCE7.out
  have c0 : w8.cell? ⟨N5, 0, none⟩ = some (.int .u8 4) := by simp [World.cell?, hce8]
  have c7 : w8.cell? ⟨N5, 7, none⟩ = some (.slice (some ⟨b, o, none⟩) 1 c) := by simp [World.cell?, hce8]
  have cb : w8.cell? ⟨b, o, none⟩ = some (.int .u8 3) := (hb9.cell (p := ⟨b, o, none⟩) (World.block_lt_of_cell? w7 _ HC7.out)).trans HC7.out
  have HB8 := Lib.hid (below_then HB4.out (HB7.out.trans (hb9.mono HB7.out.size)) HB4.out.size)
  clear hb8 hb9 hce8
  go_wp2_with (fail)
  go_ret
  exact ⟨rfl, HB8.out⟩
end Aterm
end Go.Proofs.YtolpdhkgkjnbfaaDoor

namespace Go.Proofs.YtolpdhkgkjnbfaaDoor
open Go.RowKit
set_option linter.unusedVariables false
set_option linter.unusedSimpArgs false
namespace Aterm
open Effect (RdI nget nget_at nget_mem ret_bool ret_i64 lt_of_block heap_alloc_new ofA Ixs intsV own_slice)
open Rt (box_new box_at below_then)

theorem own_50 {h : Hd} {n : Nat} (hf : smallB h n = true) : (ownH h).length ≤ 50 ∧ fewB h n = true := by
  unfold smallB at hf
  have hl : longB h = false := by simpa using hf
  have := (long_no hl).1
  refine ⟨?_, decide_eq_true this.2.2.2⟩
  unfold ownH
  split
  · simp
  · split
    · omega
    · simp
theorem bind_few : ∀ m : Nat, (∀ t : AT, wt t ≤ m → allT smallB t = true → (bindT t).length ≤ 50 * wt t ∧ allT fewB t = true) ∧ (∀ ts : List AT, wts ts ≤ m → allK smallB ts = true → (bindK ts).length ≤ 50 * wts ts ∧ allK fewB ts = true) := by
  intro m
  induction m with
  | zero =>
    refine ⟨fun t h => by have := wt_pos t; omega, fun ts h => ?_⟩
    cases ts with
    | nil => intro _; rw [bindK_nil]; exact ⟨Nat.zero_le _, by rw [allK_nil]⟩
    | cons t ts => rw [wts_cons] at h; have := wt_pos t; omega
  | succ m ih =>
    have hT : ∀ t : AT, wt t ≤ m + 1 → allT smallB t = true → (bindT t).length ≤ 50 * wt t ∧ allT fewB t = true := by
      intro t hm hs
      rw [allT_eq, Bool.and_eq_true] at hs
      have hk := wt_ks t
      obtain ⟨h1, h2⟩ := ih.2 t.ks (by omega) hs.2
      obtain ⟨h3, h4⟩ := own_50 hs.1
      refine ⟨?_, by rw [allT_eq, h4, h2]; rfl⟩
      rw [bindT_eq, List.length_append]
      omega
    refine ⟨hT, fun ts => ?_⟩
    induction ts with
    | nil => intro _ _; rw [bindK_nil]; exact ⟨Nat.zero_le _, by rw [allK_nil]⟩
    | cons t ts iht =>
      intro hm hs
      rw [wts_cons] at hm
      rw [allK_cons, Bool.and_eq_true] at hs
      obtain ⟨h1, h2⟩ := hT t (by omega) hs.1
      obtain ⟨h3, h4⟩ := iht (by omega) hs.2
      refine ⟨?_, by rw [allK_cons, h2, h4]; rfl⟩
      rw [bindK_cons, List.length_append, wts_cons]
      omega
theorem mem_bindK : ∀ {ts : List AT} {x : Int}, x ∈ bindK ts → ∃ j, j < ts.length ∧ x ∈ bindT (tget ts j)
  | [], x, h => by rw [bindK_nil] at h; cases h
  | t :: ts, x, h => by
    rw [bindK_cons] at h
    rcases List.mem_append.1 h with h | h
    · exact ⟨0, by simp, h⟩
    · obtain ⟨j, h1, h2⟩ := mem_bindK h
      exact ⟨j + 1, by simpa using h1, h2⟩
theorem bind_ok : ∀ (m : Nat) (t : AT) (h : Hd) (v : V) (l : Nat) (w : World), wt t ≤ m → AtIs w h v l t → ∀ x ∈ bindT t, -9223372036854775808 ≤ x ∧ x ≤ 9223372036854775807 := by
  intro m
  induction m with
  | zero => intro t h v l w hm; have := wt_pos t; omega
  | succ m ih =>
    intro t h v l w hm hT x hx
    rw [bindT_eq, hT.head] at hx
    rcases List.mem_append.1 hx with hx | hx
    · unfold ownH at hx
      split at hx
      · have : x = h.rho := by simpa using hx
        rw [this]; exact hT.ok.rho
      · split at hx
        · exact hT.ok.rhos.ok x hx
        · cases hx
    · obtain ⟨j, hj, hxj⟩ := mem_bindK hx
      obtain ⟨b, o, v2, -, hk, -⟩ := hT.kids.load j hj
      have := wt_ks t
      have := wts_get hj
      exact ih (tget t.ks j) _ v2 _ w (by omega) hk x hxj
theorem binds_ok {w : World} {p : Option Addr} {ts : List AT} (hk : Kids w p ts) : ∀ x ∈ bindK ts, -9223372036854775808 ≤ x ∧ x ≤ 9223372036854775807 := by
  intro x hx
  obtain ⟨j, hj, hxj⟩ := mem_bindK hx
  obtain ⟨b, o, v2, -, hk, -⟩ := hk.load j hj
  exact bind_ok _ _ _ v2 _ w (Nat.le_refl _) hk x hxj
end Aterm
end Go.Proofs.YtolpdhkgkjnbfaaDoor
namespace Go.Proofs.YtolpdhkgkjnbfaaDoor
open Go.RowKit
set_option linter.unusedVariables false
set_option linter.unusedSimpArgs false
namespace Aterm
open Effect (RdI nget nget_at nget_mem ret_bool ret_i64 lt_of_block heap_alloc_new ofA Ixs intsV own_slice)
open Rt (box_new box_at below_then)

theorem may_kid {t : AT} {j : Nat} (hm : mayT t = true) (hj : j < t.ks.length) : mayT (tget t.ks j) = true := by
  unfold mayT at hm ⊢
  rw [Bool.and_eq_true] at hm ⊢
  have h1 := of_decide_eq_true hm.1
  have h2 := hm.2
  rw [allT_eq, Bool.and_eq_true] at h2
  have h3 := wts_get hj
  have h4 := wt_ks t
  have hk : ∀ (us : List AT) (i : Nat), i < us.length → allK nodeB us = true → allT nodeB (tget us i) = true := by
    intro us
    induction us with
    | nil => intro i hi; simp at hi
    | cons u us ih =>
      intro i hi ha
      rw [allK_cons, Bool.and_eq_true] at ha
      cases i with
      | zero => exact ha.1
      | succ i => exact ih i (by simpa using hi) ha.2
  exact ⟨decide_eq_true (by omega), hk _ _ hj h2.2⟩
set_option maxRecDepth 100000 in
set_option maxHeartbeats 12800000 in
theorem partsLaw_walk (h : Hd) (v : V) (l : Nat) (t : AT) (w : World) (hT : AtIs w h v l t) (hkw : Words.KwLaid w) :
    Calls Tryd.prog 5 #[.agg #[.int .u8 h.h.k, .int .u8 h.h.op, .int .i64 h.h.pl, .int .i64 h.h.n, .string h.h.name, .string h.h.arg, .string h.h.exn, .int .i64 h.rho, .slice v.ra h.rhos.length v.rc, .slice v.ea h.e.length v.ec, .int .u8 h.ty.h.k, .int .i64 h.ty.h.r, .slice v.tea h.ty.h.e.length v.tec, .slice v.tka h.ty.ks.length v.tkc, .int .u8 h.re.h.k, .int .i64 h.re.h.r, .slice v.sea h.re.h.e.length v.sec, .slice v.ska h.re.ks.length v.skc, .slice v.ka l v.kc]] w fun e w' => e = .returned (.bool true) ∧ Below w.heap.size w w' := by
  have haw := fun (W : World) (hb : Below w.heap.size w W) => awake_walk W (hkw.below hb)
  have hg1 := fun (W : World) (hb : Below w.heap.size w W) => great_walk t h v l W (hT.below hb)
  have HAW := Lib.hid haw; have HG1 := Lib.hid hg1; have HT := Lib.hid hT; have HKW := Lib.hid hkw
  clear haw hg1 hT hkw
  go_enter Tryd.func5, Tryd.ntmps5
  go_upto_region 1 with (fail)
  refine of_world (F := fun V => Below w.heap.size w V ∧ V.rangeAt w.heap.size 0 (acells h v l)) ⟨box_new _, row_new rfl⟩ ?_
  rintro W0 ⟨hb0, hr0⟩
  generalize hN1 : w.heap.size = N1 at hr0 ⊢
  have HN1 := Lib.hid hN1
  have HC0 := Lib.hid hb0; have HR0 := Lib.hid hr0
  clear hb0 hr0 hN1
  go_wp2_with (refine at_load rfl _ rfl N1 0 rfl HR0.out ?_)
  refine (HG1.out W0 HC0.out).mono ?_
  rintro e w1 ⟨rfl, hb1⟩
  have HC1 := Lib.hid (below_then HC0.out hb1 HC0.out.size); have HR1 := Lib.hid (range_below HR0.out hb1)
  clear hb1 HC0 HR0
  clear W0
  cases hq1 : greatT t
  case true =>
    go_wp2_with (fail)
    refine (HAW.out w1 HC1.out).mono ?_
    rintro e w2 ⟨rfl, hb2⟩
    have HC2 := Lib.hid (below_then HC1.out hb2 HC1.out.size)
    clear hb2
    go_wp2_with (fail)
    go_ret
    exact ⟨rfl, HC2.out⟩
  have hs1 := small_of hq1
  have hfew := (bind_few _).1 t (Nat.le_refl _) hs1.2
  have HS := Lib.hid hs1; have HF := Lib.hid hfew
  clear hs1 hfew hq1
  go_upto_region 3 with (fail)
  have hks := (capA HT.out)
  have hown := fun (W : World) (hb : Below w.heap.size w W) => own_walk t h v l W (HT.out.below hb)
  have hwk := wt_ks t
  have hlk := HT.out.len
  have hsk : allK smallB t.ks = true := by have := HS.out.2; rw [allT_eq, Bool.and_eq_true] at this; exact this.2
  have hlm : l ≤ maxLen := by have := HT.out.cap; omega
  have hbkw := fun (W : World) (hb : Below w.heap.size w W) => bindsK_walk t.ks v.ka l v.kc w W hlk hlm (fun W' hW => rowS_kids HT.out.kids (below_then hb hW hb.size)) hb (by have := HS.out.1; omega) hsk
  have hbok := binds_ok HT.out.kids
  have hbe : bindT t = ownH h ++ bindK t.ks := by rw [bindT_eq, HT.out.head]
  have hbl : (ownH h).length + (bindK t.ks).length ≤ 20000 := by have h1 := HF.out.1; have h2 := HS.out.1; rw [hbe, List.length_append] at h1; omega
  have HOWN := Lib.hid hown; have HBKW := Lib.hid hbkw; have HBOK := Lib.hid hbok; have HBE := Lib.hid hbe; have HBL := Lib.hid hbl; have HSK := Lib.hid (And.intro hlk (And.intro hlm (And.intro hwk hsk)))
  clear hown hbkw hbok hbe hbl hks hwk hlk hlm hsk
  go_cut [3] (fun s3 wx => ∃ (a : Option Addr) (m c : Nat), s3 = .slice a m c ∧ Hid (m = (bindT t).length) ∧ Hid (∃ B, Ixs B wx (.slice a m c) m (bindT t)) ∧ Hid (Below w1.heap.size w1 wx))
  case first =>
    refine wp_region_held_drew (S := fun (V : World) => Below w1.heap.size w1 V) (by kernel_rfl) ((Below.refl _ _).drew) (fun hHeld => ?_)
    have hini : Below w1.heap.size w1 w1.drew := (Below.refl _ _).drew
    generalize w1.drew = v0 at *
    refine wpAnyH_take (i := 1) (v := .agg #[.int .u8 h.h.k, .int .u8 h.h.op, .int .i64 h.h.pl, .int .i64 h.h.n, .string h.h.name, .string h.h.arg, .string h.h.exn, .int .i64 h.rho, .slice v.ra h.rhos.length v.rc, .slice v.ea h.e.length v.ec, .int .u8 h.ty.h.k, .int .i64 h.ty.h.r, .slice v.tea h.ty.h.e.length v.tec, .slice v.tka h.ty.ks.length v.tkc, .int .u8 h.re.h.k, .int .i64 h.re.h.r, .slice v.sea h.re.h.e.length v.sec, .slice v.ska h.re.ks.length v.skc, .slice v.ka l v.kc]) rfl (by kernel_rfl) (by kernel_rfl) (by kernel_rfl) (fun _ _ _ h => h) (Or.inl ⟨by rfl, ?_⟩) (by assumption) ?_
    · intro w' hSw
      exact exec_at _ rfl N1 0 rfl (range_below HR1.out hSw)
    try simp only [Act.put, List.getElem_toArray, List.getElem_cons_succ, List.getElem_cons_zero, List.setIfInBounds_toArray, List.set_cons_zero, List.set_cons_succ]
    refine wpAnyH_take (i := 4) (v := .pointer (some ⟨N1, 18, none⟩)) rfl (by kernel_rfl) (by kernel_rfl) (by kernel_rfl) (fun _ _ _ h => h) (Or.inl ⟨by rfl, ?_⟩) (by assumption) ?_
    · intro w' hSw
      first | (go_simp; done) | rfl
    try simp only [Act.put, List.getElem_toArray, List.getElem_cons_succ, List.getElem_cons_zero, List.setIfInBounds_toArray, List.set_cons_zero, List.set_cons_succ]
    refine wpAnyH_take (i := 5) (v := .slice v.ka l v.kc) rfl (by kernel_rfl) (by kernel_rfl) (by kernel_rfl) (fun _ _ _ h => h) (Or.inl ⟨by rfl, ?_⟩) (by assumption) ?_
    · intro w' hSw
      have k18 : w'.cell? ⟨N1, 18, none⟩ = some (.slice v.ka l v.kc) := by have := range_below HR1.out hSw 18 (.slice v.ka l v.kc) rfl; simpa using this
      first | (go_simp; done) | rfl
    try simp only [Act.put, List.getElem_toArray, List.getElem_cons_succ, List.getElem_cons_zero, List.setIfInBounds_toArray, List.set_cons_zero, List.set_cons_succ]
    refine wpAnyH_ready (rs := [0, 2]) (by kernel_rfl) (by simp) ?_
    refine AllReadyH.cons rfl (fun K hK => ?_) (AllReadyH.cons rfl (fun K hK => ?_) AllReadyH.nil)
    · have HK2 := Lib.hid hK
      clear hK
      try rw [if_pos (by rfl)]
      go_simp
      have hi : Ixs v0.heap.size (v0.alloc (.cells #[] 3)) (.slice (some ⟨v0.heap.size, 0, none⟩) 0 0) 0 [] := World.ownsRow_lit (base := v0.heap.size) (e := 3) (size := 1) v0 #[] 0 (Nat.le_refl _) (by unfold maxLen; omega) rfl
      have hal : Below v0.heap.size v0 (v0.alloc (.cells #[] 3)) := box_new _
      generalize hXA : v0.alloc (.cells #[] 3) = XA at *
      clear hXA
      generalize hB : v0.heap.size = B at *
      have HB := Lib.hid hB
      clear hB
      have hsa := hini.trans (by rw [← HB.out] at hal; exact hal.mono hini.size)
      have HSA := Lib.hid hsa; have HI := Lib.hid hi
      clear hal hsa hi
      refine HK2.out _ _ HSA.out (fun hHeld => ?_)
      clear HK2
      try simp only [Act.put, List.getElem_toArray, List.getElem_cons_succ, List.getElem_cons_zero, List.setIfInBounds_toArray, List.set_cons_zero, List.set_cons_succ]
      clear K
      refine wpAnyH_ready (rs := [2]) (by kernel_rfl) (by simp) ?_
      refine AllReadyH.cons rfl (fun K hK => ?_) AllReadyH.nil
      have HK2 := Lib.hid hK
      clear hK
      try rw [if_pos (by rfl)]
      go_simp
      refine (HOWN.out _ (below_then HC1.out HSA.out HC1.out.size)).mono ?_
      rintro e v2 ⟨p2, n2, c2, rfl, hn2, hrd2, hb2⟩
      have HN2 := Lib.hid hn2
      clear hn2
      have hSx := below_then HSA.out hb2 HSA.out.size
      have hix : Ixs B v2 (.slice (some ⟨B, 0, none⟩) 0 0) 0 [] := own_below HI.out hb2
      have hrdx := hrd2
      have hbx : w1.heap.size ≤ B ∧ B ≤ v2.heap.size := by have := HB.out; have := hini.size; have := HSA.out.size; have := hb2.size; have := (HI.out.lt B rfl).2; omega
      have HBX := Lib.hid hbx
      clear hb2 hrd2 hbx
      refine HK2.out _ _ hSx (fun hHeld => ?_)
      clear HK2
      try simp only [Act.put, List.getElem_toArray, List.getElem_cons_succ, List.getElem_cons_zero, List.setIfInBounds_toArray, List.set_cons_zero, List.set_cons_succ]
      clear K
      have HSX := Lib.hid hSx
      obtain ⟨a3, c3, w3, hrun3, hi3, hg3, -⟩ := append_rd (c := c2) hix hrdx (by have := HBL.out; have := HN2.out; omega) (by have := HBX.out; omega)
      have hS3 : Below w1.heap.size w1 w3 := HSX.out.grown hg3 HSX.out.size (fun q hq => by have := (hix.lt q hq).1; have := HBX.out; omega)
      simp only [List.nil_append, Nat.zero_add] at hi3 hrun3
      have HRUN3 := Lib.hid hrun3; have HI3 := Lib.hid hi3; have HS3 := Lib.hid hS3
      have HB3 := Lib.hid (show B ≤ w3.heap.size from by have := hg3.size; have := HBX.out; omega)
      clear hrun3 hi3 hS3 hg3 hix hrdx hSx
      refine wpAnyH_ready (rs := [3]) (by kernel_rfl) (by simp) ?_
      refine AllReadyH.cons rfl (fun K hK => ?_) AllReadyH.nil
      have HK2 := Lib.hid hK
      clear hK
      refine step_append_made (by rfl) _ _ _ _ (by rfl) (.slice (some ⟨B, 0, none⟩) 0 0) (.slice p2 n2 c2) _ (by rfl) (by rfl) HRUN3.out ?_
      refine HK2.out _ _ HS3.out (fun hHeld => ?_)
      clear HK2
      try simp only [Act.put, List.getElem_toArray, List.getElem_cons_succ, List.getElem_cons_zero, List.setIfInBounds_toArray, List.set_cons_zero, List.set_cons_succ]
      clear K
      refine wpAnyH_ready (rs := [6]) (by kernel_rfl) (by simp) ?_
      refine AllReadyH.cons rfl (fun K hK => ?_) AllReadyH.nil
      have HK2 := Lib.hid hK
      clear hK
      try rw [if_pos (by rfl)]
      go_simp
      refine (HBKW.out w3 (below_then HC1.out HS3.out HC1.out.size)).mono ?_
      rintro e w4 ⟨a4, c4, rfl, hix4, hb4⟩
      have hrd4 := RdI.of_own hix4 HBOK.out
      have hi4 : Ixs B w4 (.slice a3 n2 c3) n2 (ownH h) := own_below HI3.out hb4
      have hS4 := below_then HS3.out hb4 HS3.out.size
      obtain ⟨a5, c5, w5, hrun5, hi5, hg5, -⟩ := append_rd (c := c4) hi4 hrd4 (by have := HBL.out; have := HN2.out; omega) (by have := HBX.out; have := hS4.size; have h9 := HB3.out; have := hb4.size; omega)
      have hS5 : Below w1.heap.size w1 w5 := hS4.grown hg5 hS4.size (fun q hq => by have := (hi4.lt q hq).1; have := HBX.out; omega)
      rw [← HBE.out] at hi5
      have HRUN5 := Lib.hid hrun5; have HI5 := Lib.hid hi5; have HS5 := Lib.hid hS5; have HS4 := Lib.hid hS4
      clear hrun5 hi5 hS5 hg5 hS4 hi4 hrd4 hix4 hb4
      refine HK2.out _ _ HS4.out (fun hHeld => ?_)
      clear HK2
      try simp only [Act.put, List.getElem_toArray, List.getElem_cons_succ, List.getElem_cons_zero, List.setIfInBounds_toArray, List.set_cons_zero, List.set_cons_succ]
      clear K
      refine wpAnyH_ready (rs := [7]) (by kernel_rfl) (by simp) ?_
      refine AllReadyH.cons rfl (fun K hK => ?_) AllReadyH.nil
      have HK2 := Lib.hid hK
      clear hK
      refine step_append_made (by rfl) _ _ _ _ (by rfl) (.slice a3 n2 c3) (.slice a4 (bindK t.ks).length c4) _ (by rfl) (by rfl) HRUN5.out ?_
      refine HK2.out _ _ HS5.out (fun hHeld => ?_)
      clear HK2
      try simp only [Act.put, List.getElem_toArray, List.getElem_cons_succ, List.getElem_cons_zero, List.setIfInBounds_toArray, List.set_cons_zero, List.set_cons_succ]
      clear K
      refine wpAnyH_ready (rs := [8]) (by kernel_rfl) (by simp) ?_
      refine AllReadyH.cons rfl (fun K hK => ?_) AllReadyH.nil
      have HK2 := Lib.hid hK
      clear hK
      try rw [if_pos (by rfl)]
      go_simp
      refine HK2.out _ _ HS5.out (fun hHeld => ?_)
      clear HK2
      try simp only [Act.put, List.getElem_toArray, List.getElem_cons_succ, List.getElem_cons_zero, List.setIfInBounds_toArray, List.set_cons_zero, List.set_cons_succ]
      clear K
      refine wpAnyH_done (by kernel_rfl) ?_ _
      clear hHeld
      go_wp2_with (fail)
      go_meet
      exact ⟨_, _, _, rfl, Lib.hid (by rw [HBE.out, List.length_append, HN2.out]), Lib.hid ⟨B, HI5.out⟩, HS5⟩
    · have HK2 := Lib.hid hK
      clear hK
      try rw [if_pos (by rfl)]
      go_simp
      refine (HOWN.out _ (below_then HC1.out hini HC1.out.size)).mono ?_
      rintro e v2 ⟨p2, n2, c2, rfl, hn2, hrd2, hb2⟩
      have HN2 := Lib.hid hn2
      clear hn2
      have hS2 := below_then hini hb2 hini.size
      have HS2 := Lib.hid hS2; have HRD2 := Lib.hid hrd2
      clear hS2 hrd2
      refine HK2.out _ _ HS2.out (fun hHeld => ?_)
      clear HK2
      try simp only [Act.put, List.getElem_toArray, List.getElem_cons_succ, List.getElem_cons_zero, List.setIfInBounds_toArray, List.set_cons_zero, List.set_cons_succ]
      clear K
      refine wpAnyH_ready (rs := [0]) (by kernel_rfl) (by simp) ?_
      refine AllReadyH.cons rfl (fun K hK => ?_) AllReadyH.nil
      have HK2 := Lib.hid hK
      clear hK
      try rw [if_pos (by rfl)]
      go_simp
      have hi : Ixs v2.heap.size (v2.alloc (.cells #[] 3)) (.slice (some ⟨v2.heap.size, 0, none⟩) 0 0) 0 [] := World.ownsRow_lit (base := v2.heap.size) (e := 3) (size := 1) v2 #[] 0 (Nat.le_refl _) (by unfold maxLen; omega) rfl
      have hal : Below v2.heap.size v2 (v2.alloc (.cells #[] 3)) := box_new _
      generalize hXA : v2.alloc (.cells #[] 3) = XA at *
      clear hXA
      generalize hB : v2.heap.size = B at *
      have HB := Lib.hid hB
      clear hB
      have hSx := below_then HS2.out (by rw [← HB.out] at hal; exact hal) HS2.out.size
      have hix := hi
      have hrdx := HRD2.out.below (by rw [← HB.out] at hal; exact hal)
      have hbx : w1.heap.size ≤ B ∧ B ≤ XA.heap.size := by have := HB.out; have := HS2.out.size; have := (hi.lt B rfl).2; omega
      have HBX := Lib.hid hbx
      clear hb2 hbx hi hal
      refine HK2.out _ _ hSx (fun hHeld => ?_)
      clear HK2
      try simp only [Act.put, List.getElem_toArray, List.getElem_cons_succ, List.getElem_cons_zero, List.setIfInBounds_toArray, List.set_cons_zero, List.set_cons_succ]
      clear K
      have HSX := Lib.hid hSx
      obtain ⟨a3, c3, w3, hrun3, hi3, hg3, -⟩ := append_rd (c := c2) hix hrdx (by have := HBL.out; have := HN2.out; omega) (by have := HBX.out; omega)
      have hS3 : Below w1.heap.size w1 w3 := HSX.out.grown hg3 HSX.out.size (fun q hq => by have := (hix.lt q hq).1; have := HBX.out; omega)
      simp only [List.nil_append, Nat.zero_add] at hi3 hrun3
      have HRUN3 := Lib.hid hrun3; have HI3 := Lib.hid hi3; have HS3 := Lib.hid hS3
      have HB3 := Lib.hid (show B ≤ w3.heap.size from by have := hg3.size; have := HBX.out; omega)
      clear hrun3 hi3 hS3 hg3 hix hrdx hSx
      refine wpAnyH_ready (rs := [3]) (by kernel_rfl) (by simp) ?_
      refine AllReadyH.cons rfl (fun K hK => ?_) AllReadyH.nil
      have HK2 := Lib.hid hK
      clear hK
      refine step_append_made (by rfl) _ _ _ _ (by rfl) (.slice (some ⟨B, 0, none⟩) 0 0) (.slice p2 n2 c2) _ (by rfl) (by rfl) HRUN3.out ?_
      refine HK2.out _ _ HS3.out (fun hHeld => ?_)
      clear HK2
      try simp only [Act.put, List.getElem_toArray, List.getElem_cons_succ, List.getElem_cons_zero, List.setIfInBounds_toArray, List.set_cons_zero, List.set_cons_succ]
      clear K
      refine wpAnyH_ready (rs := [6]) (by kernel_rfl) (by simp) ?_
      refine AllReadyH.cons rfl (fun K hK => ?_) AllReadyH.nil
      have HK2 := Lib.hid hK
      clear hK
      try rw [if_pos (by rfl)]
      go_simp
      refine (HBKW.out w3 (below_then HC1.out HS3.out HC1.out.size)).mono ?_
      rintro e w4 ⟨a4, c4, rfl, hix4, hb4⟩
      have hrd4 := RdI.of_own hix4 HBOK.out
      have hi4 : Ixs B w4 (.slice a3 n2 c3) n2 (ownH h) := own_below HI3.out hb4
      have hS4 := below_then HS3.out hb4 HS3.out.size
      obtain ⟨a5, c5, w5, hrun5, hi5, hg5, -⟩ := append_rd (c := c4) hi4 hrd4 (by have := HBL.out; have := HN2.out; omega) (by have := HBX.out; have := hS4.size; have h9 := HB3.out; have := hb4.size; omega)
      have hS5 : Below w1.heap.size w1 w5 := hS4.grown hg5 hS4.size (fun q hq => by have := (hi4.lt q hq).1; have := HBX.out; omega)
      rw [← HBE.out] at hi5
      have HRUN5 := Lib.hid hrun5; have HI5 := Lib.hid hi5; have HS5 := Lib.hid hS5; have HS4 := Lib.hid hS4
      clear hrun5 hi5 hS5 hg5 hS4 hi4 hrd4 hix4 hb4
      refine HK2.out _ _ HS4.out (fun hHeld => ?_)
      clear HK2
      try simp only [Act.put, List.getElem_toArray, List.getElem_cons_succ, List.getElem_cons_zero, List.setIfInBounds_toArray, List.set_cons_zero, List.set_cons_succ]
      clear K
      refine wpAnyH_ready (rs := [7]) (by kernel_rfl) (by simp) ?_
      refine AllReadyH.cons rfl (fun K hK => ?_) AllReadyH.nil
      have HK2 := Lib.hid hK
      clear hK
      refine step_append_made (by rfl) _ _ _ _ (by rfl) (.slice a3 n2 c3) (.slice a4 (bindK t.ks).length c4) _ (by rfl) (by rfl) HRUN5.out ?_
      refine HK2.out _ _ HS5.out (fun hHeld => ?_)
      clear HK2
      try simp only [Act.put, List.getElem_toArray, List.getElem_cons_succ, List.getElem_cons_zero, List.setIfInBounds_toArray, List.set_cons_zero, List.set_cons_succ]
      clear K
      refine wpAnyH_ready (rs := [8]) (by kernel_rfl) (by simp) ?_
      refine AllReadyH.cons rfl (fun K hK => ?_) AllReadyH.nil
      have HK2 := Lib.hid hK
      clear hK
      try rw [if_pos (by rfl)]
      go_simp
      refine HK2.out _ _ HS5.out (fun hHeld => ?_)
      clear HK2
      try simp only [Act.put, List.getElem_toArray, List.getElem_cons_succ, List.getElem_cons_zero, List.setIfInBounds_toArray, List.set_cons_zero, List.set_cons_succ]
      clear K
      refine wpAnyH_done (by kernel_rfl) ?_ _
      clear hHeld
      go_wp2_with (fail)
      go_meet
      exact ⟨_, _, _, rfl, Lib.hid (by rw [HBE.out, List.length_append, HN2.out]), Lib.hid ⟨B, HI5.out⟩, HS5⟩
  case rest =>
    obtain ⟨a, m, c, rfl, HM, HI, HC⟩ := hcut
    have hrc := range_below HR1.out HC.out
    have hbc := below_then HC1.out HC.out HC1.out.size
    have HRC := Lib.hid hrc; have HBC := Lib.hid hbc
    clear hrc hbc HOWN HBKW HBL
    have hmay := fun (W : World) (hb : Below w.heap.size w W) => may_walk t h v l W (HT.out.below hb) (by have := HS.out.1; omega) HS.out.2 (HKW.out.below hb)
    have HMAY := Lib.hid hmay
    clear hmay
    have L63 : (l : Int) ≤ 9223372036854775807 := by have := HSK.out.2.1; unfold maxLen at this; omega
    go_wp2_with (fail)
    go_loopw [4] (fun i wr => ∃ j : Nat, j ≤ l ∧ i = .int .i64 j ∧ Hid (Below wc.heap.size wc wr)) (fun i _ => l - (intOf i).toNat)
    case atStart => exact ⟨0, Nat.zero_le _, rfl, Lib.hid (Below.refl _ _)⟩
    case round =>
      obtain ⟨j, hj, rfl, HB⟩ := hrel
      have hrg := range_below HRC.out HB.out
      have k18 : wr.cell? ⟨N1, 18, none⟩ = some (.slice v.ka l v.kc) := by have := hrg 18 (.slice v.ka l v.kc) rfl; simpa using this
      have hwr := below_then HBC.out HB.out HBC.out.size
      have HRG := Lib.hid hrg; have HWR := Lib.hid hwr
      clear hrg hwr
      by_cases hlt : j < l
      · have hjt : j < t.ks.length := by rw [HSK.out.1]; exact hlt
        obtain ⟨bb, o, v2, hp, hat, hrk⟩ := HT.out.kids.load j hjt
        have hkm := may_kid (t := t) (j := j)
        have hsk : allT smallB (tget t.ks j) = true := by
          have hk : ∀ (us : List AT) (i : Nat), i < us.length → allK smallB us = true → allT smallB (tget us i) = true := by
            intro us
            induction us with
            | nil => intro i hi; simp at hi
            | cons u us ih =>
              intro i hi ha
              rw [allK_cons, Bool.and_eq_true] at ha
              cases i with
              | zero => exact ha.1
              | succ i => exact ih i (by simpa using hi) ha.2
          exact hk _ _ hjt HSK.out.2.2.2
        have hwk : wt (tget t.ks j) ≤ 400 := by have := wts_get hjt; have := HSK.out.2.2.1; have := HS.out.1; omega
        have hmk := fun (W : World) (hb : Below w.heap.size w W) => may_walk (tget t.ks j) _ v2 _ W (hat.below hb) (by omega) hsk (HKW.out.below hb)
        have HMK := Lib.hid hmk; have HKM := Lib.hid (fun hm => hkm hm hjt); have HRK := Lib.hid hrk
        clear hmk hkm hrk hat hsk hwk hjt
        have j0 : (0 : Int) ≤ (j : Int) := by omega
        have j1 : (j : Int) < (l : Int) := by omega
        have j2 : decide ((j : Int) < (l : Int)) = true := decide_eq_true j1
        rw [hp] at k18
        clear hp
        go_wp2_with (refine at_load rfl _ rfl N1 0 rfl HRG.out ?_)
        refine (HMAY.out wr HWR.out).mono ?_
        rintro e w2 ⟨rfl, hb2⟩
        have q18 : w2.cell? ⟨N1, 18, none⟩ = some (.slice (some ⟨bb, o, none⟩) l v.kc) := (hb2.cell (p := ⟨N1, 18, none⟩) (World.block_lt_of_cell? _ _ k18)).trans k18
        have hbw2 := below_then HWR.out hb2 HWR.out.size
        have HB2 := Lib.hid (below_then HB.out hb2 HB.out.size); have HW2 := Lib.hid hbw2
        clear hb2 k18 hbw2
        cases hm : mayT t
        · go_wp2_with (fail)
          go_roundw
          case rel => exact ⟨j + 1, by omega, by go_num, HB2⟩
          case measure => simp [intOf]; omega
        · have hmk := HMK.out w2 HW2.out
          rw [HKM.out hm] at hmk
          have HMK2 := Lib.hid hmk; have HRK2 := Lib.hid (range_below HRK.out HW2.out)
          clear hmk
          go_wp2_with (refine at_load_g (by first | rfl | simp [Region.wanted, yielded, Act.put]) _ rfl bb (o + j * 19) rfl HRK2.out ?_)
          refine HMK2.out.mono ?_
          rintro e w3 ⟨rfl, hb3⟩
          have HB3 := Lib.hid (below_then HB2.out hb3 HB2.out.size)
          clear hb3
          go_wp2_with (fail)
          go_roundw
          case rel => exact ⟨j + 1, by omega, by go_num, HB3⟩
          case measure => simp [intOf]; omega
      · obtain rfl : j = l := by omega
        go_upto_region 9 with (fail)
        clear k18
        obtain ⟨B, hI⟩ := HI.out
        have hbkt : bindK [t] = bindT t := by rw [bindK_cons, bindK_nil, List.append_nil]
        have hwt1 : wts [t] = wt t := by rw [wts_cons, wts_nil]; rfl
        have hak : allK smallB [t] = true := by rw [allK_cons, allK_nil, HS.out.2]; rfl
        have hbokt := bind_ok _ t h v j w (Nat.le_refl _) HT.out
        have hsz1 := fun (N : Nat) (W : World) (hr : W.rangeAt N 0 (acells h v j)) (hb : Below w.heap.size w W) => size_walk [t] (some ⟨N, 0, none⟩) 1 1 w W rfl Rt.one_le (fun W' hW' => row_one HT.out (range_below hr hW')) hb (by rw [hwt1]; have := HS.out.1; omega) hak
        have hsz2 := fun (W : World) (hb : Below w.heap.size w W) => size_walk t.ks v.ka j v.kc w W HSK.out.1 HSK.out.2.1 (fun W' hW => rowS_kids HT.out.kids (below_then hb hW hb.size)) hb (by have := HSK.out.2.2.1; have := HS.out.1; omega) HSK.out.2.2.2
        have hbd1 := fun (N : Nat) (W : World) (hr : W.rangeAt N 0 (acells h v j)) (hb : Below w.heap.size w W) => bindsK_walk [t] (some ⟨N, 0, none⟩) 1 1 w W rfl Rt.one_le (fun W' hW' => row_one HT.out (range_below hr hW')) hb (by rw [hwt1]; have := HS.out.1; omega) hak
        rw [hbkt] at hbd1
        have hX : wts t.ks ≤ 400 := by have := HSK.out.2.2.1; have := HS.out.1; omega
        have hZ : ((wts [t] : Nat) : Int) = 1 + (wts t.ks : Nat) := by rw [hwt1, HSK.out.2.2.1]; omega
        rw [hZ] at hsz1
        have hbl : (bindT t).length ≤ 20000 := by have := HF.out.1; have := HS.out.1; omega
        have HSZ1 := Lib.hid hsz1; have HSZ2 := Lib.hid hsz2; have HBD1 := Lib.hid hbd1; have HBOKT := Lib.hid hbokt; have HI9 := Lib.hid hI; have HBL := Lib.hid hbl
        generalize wts t.ks = X at *
        obtain ⟨Z, hZZ⟩ : ∃ Z : Int, Z = 1 + (X : Int) := ⟨_, rfl⟩
        have hwr : IntKind.i64.wrap (1 + (X : Int)) = Z := by rw [hZZ]; exact IntWalk.i64_in _ (by omega)
        rw [← hZZ] at HSZ1
        have hze : (Z == Z) = true := by simp
        clear hbkt hwt1 hak hbokt hsz1 hsz2 hbd1 hX hZ hI hbl hZZ L63 hlt hj
        have hini : Below wr.heap.size wr wr.drew := (Below.refl _ _).drew
        refine wp_region_held_drew (S := fun (V : World) => Below wr.heap.size wr V) (by kernel_rfl) hini (fun hHeld => ?_)
        generalize wr.drew = v0 at *
        refine wpAnyH_take (i := 0) (v := .agg #[.int .u8 h.h.k, .int .u8 h.h.op, .int .i64 h.h.pl, .int .i64 h.h.n, .string h.h.name, .string h.h.arg, .string h.h.exn, .int .i64 h.rho, .slice v.ra h.rhos.length v.rc, .slice v.ea h.e.length v.ec, .int .u8 h.ty.h.k, .int .i64 h.ty.h.r, .slice v.tea h.ty.h.e.length v.tec, .slice v.tka h.ty.ks.length v.tkc, .int .u8 h.re.h.k, .int .i64 h.re.h.r, .slice v.sea h.re.h.e.length v.sec, .slice v.ska h.re.ks.length v.skc, .slice v.ka j v.kc]) rfl (by kernel_rfl) (by kernel_rfl) (by kernel_rfl) (fun _ _ _ h => h) (Or.inl ⟨by rfl, ?_⟩) (by assumption) ?_
        · intro w' hSw
          exact exec_at _ rfl N1 0 rfl (range_below HRG.out hSw)
        try simp only [Act.put, List.getElem_toArray, List.getElem_cons_succ, List.getElem_cons_zero, List.setIfInBounds_toArray, List.set_cons_zero, List.set_cons_succ]
        refine wpAnyH_take (i := 3) (v := .pointer (some ⟨N1, 18, none⟩)) rfl (by kernel_rfl) (by kernel_rfl) (by kernel_rfl) (fun _ _ _ h => h) (Or.inl ⟨by rfl, ?_⟩) (by assumption) ?_
        · intro w' hSw
          first | (go_simp; done) | rfl
        try simp only [Act.put, List.getElem_toArray, List.getElem_cons_succ, List.getElem_cons_zero, List.setIfInBounds_toArray, List.set_cons_zero, List.set_cons_succ]
        refine wpAnyH_take (i := 4) (v := .slice v.ka j v.kc) rfl (by kernel_rfl) (by kernel_rfl) (by kernel_rfl) (fun _ _ _ h => h) (Or.inl ⟨by rfl, ?_⟩) (by assumption) ?_
        · intro w' hSw
          have k18 : w'.cell? ⟨N1, 18, none⟩ = some (.slice v.ka j v.kc) := by have := range_below HRG.out hSw 18 (.slice v.ka j v.kc) rfl; simpa using this
          first | (go_simp; done) | rfl
        try simp only [Act.put, List.getElem_toArray, List.getElem_cons_succ, List.getElem_cons_zero, List.setIfInBounds_toArray, List.set_cons_zero, List.set_cons_succ]
        refine wpAnyH_ready (rs := [1]) (by kernel_rfl) (by simp) ?_
        refine AllReadyH.cons rfl (fun K hK => ?_) AllReadyH.nil
        have HK2 := Lib.hid hK
        clear hK
        try rw [if_pos (by rfl)]
        go_simp
        have hal := box_new (w := v0) (.cells #[.int .u8 h.h.k, .int .u8 h.h.op, .int .i64 h.h.pl, .int .i64 h.h.n, .string h.h.name, .string h.h.arg, .string h.h.exn, .int .i64 h.rho, .slice v.ra h.rhos.length v.rc, .slice v.ea h.e.length v.ec, .int .u8 h.ty.h.k, .int .i64 h.ty.h.r, .slice v.tea h.ty.h.e.length v.tec, .slice v.tka h.ty.ks.length v.tkc, .int .u8 h.re.h.k, .int .i64 h.re.h.r, .slice v.sea h.re.h.e.length v.sec, .slice v.ska h.re.ks.length v.skc, .slice v.ka j v.kc] 33)
        have hrw : (v0.alloc (.cells #[.int .u8 h.h.k, .int .u8 h.h.op, .int .i64 h.h.pl, .int .i64 h.h.n, .string h.h.name, .string h.h.arg, .string h.h.exn, .int .i64 h.rho, .slice v.ra h.rhos.length v.rc, .slice v.ea h.e.length v.ec, .int .u8 h.ty.h.k, .int .i64 h.ty.h.r, .slice v.tea h.ty.h.e.length v.tec, .slice v.tka h.ty.ks.length v.tkc, .int .u8 h.re.h.k, .int .i64 h.re.h.r, .slice v.sea h.re.h.e.length v.sec, .slice v.ska h.re.ks.length v.skc, .slice v.ka j v.kc] 33)).rangeAt v0.heap.size 0 (acells h v j) := row_new rfl
        generalize hXA : v0.alloc (.cells #[.int .u8 h.h.k, .int .u8 h.h.op, .int .i64 h.h.pl, .int .i64 h.h.n, .string h.h.name, .string h.h.arg, .string h.h.exn, .int .i64 h.rho, .slice v.ra h.rhos.length v.rc, .slice v.ea h.e.length v.ec, .int .u8 h.ty.h.k, .int .i64 h.ty.h.r, .slice v.tea h.ty.h.e.length v.tec, .slice v.tka h.ty.ks.length v.tkc, .int .u8 h.re.h.k, .int .i64 h.re.h.r, .slice v.sea h.re.h.e.length v.sec, .slice v.ska h.re.ks.length v.skc, .slice v.ka j v.kc] 33) = XA at *
        clear hXA
        have hsa := below_then hini hal hini.size
        generalize hNB : v0.heap.size = NB at *
        have HSA := Lib.hid hsa; have XAR := Lib.hid hrw
        clear hal hsa hrw hNB
        refine HK2.out _ _ HSA.out (fun hHeld => ?_)
        clear HK2
        try simp only [Act.put, List.getElem_toArray, List.getElem_cons_succ, List.getElem_cons_zero, List.setIfInBounds_toArray, List.set_cons_zero, List.set_cons_succ]
        clear K
        refine wpAnyH_ready (rs := [2]) (by kernel_rfl) (by simp) ?_
        refine AllReadyH.cons rfl (fun K hK => ?_) AllReadyH.nil
        have HK2 := Lib.hid hK
        clear hK
        try rw [if_pos (by rfl)]
        go_simp
        refine (HSZ1.out NB XA XAR.out (below_then HWR.out HSA.out HWR.out.size)).mono ?_
        rintro e v2 ⟨rfl, hb2⟩
        have HS2 := Lib.hid (below_then HSA.out hb2 HSA.out.size)
        clear hb2
        refine HK2.out _ _ HS2.out (fun hHeld => ?_)
        clear HK2
        try simp only [Act.put, List.getElem_toArray, List.getElem_cons_succ, List.getElem_cons_zero, List.setIfInBounds_toArray, List.set_cons_zero, List.set_cons_succ]
        clear K
        refine wpAnyH_ready (rs := [5]) (by kernel_rfl) (by simp) ?_
        refine AllReadyH.cons rfl (fun K hK => ?_) AllReadyH.nil
        have HK2 := Lib.hid hK
        clear hK
        try rw [if_pos (by rfl)]
        go_simp
        refine (HSZ2.out v2 (below_then HWR.out HS2.out HWR.out.size)).mono ?_
        rintro e v3 ⟨rfl, hb3⟩
        have HS3 := Lib.hid (below_then HS2.out hb3 HS2.out.size)
        clear hb3
        refine HK2.out _ _ HS3.out (fun hHeld => ?_)
        clear HK2
        try simp only [Act.put, List.getElem_toArray, List.getElem_cons_succ, List.getElem_cons_zero, List.setIfInBounds_toArray, List.set_cons_zero, List.set_cons_succ]
        clear K
        refine wpAnyH_ready (rs := [6]) (by kernel_rfl) (by simp) ?_
        refine AllReadyH.cons rfl (fun K hK => ?_) AllReadyH.nil
        have HK2 := Lib.hid hK
        clear hK
        try rw [if_pos (by rfl)]
        go_simp
        refine HK2.out _ _ HS3.out (fun hHeld => ?_)
        clear HK2
        try simp only [Act.put, List.getElem_toArray, List.getElem_cons_succ, List.getElem_cons_zero, List.setIfInBounds_toArray, List.set_cons_zero, List.set_cons_succ]
        clear K
        refine wpAnyH_ready (rs := [7]) (by kernel_rfl) (by simp) ?_
        refine AllReadyH.cons rfl (fun K hK => ?_) AllReadyH.nil
        have HK2 := Lib.hid hK
        clear hK
        try rw [if_pos (by rfl)]
        go_simp
        refine HK2.out _ _ HS3.out (fun hHeld => ?_)
        clear HK2
        try simp only [Act.put, List.getElem_toArray, List.getElem_cons_succ, List.getElem_cons_zero, List.setIfInBounds_toArray, List.set_cons_zero, List.set_cons_succ]
        clear K
        refine wpAnyH_ready (rs := [8]) (by kernel_rfl) (by simp) ?_
        refine AllReadyH.cons rfl (fun K hK => ?_) AllReadyH.nil
        have HK2 := Lib.hid hK
        clear hK
        try rw [if_pos (by rfl)]
        go_simp
        refine HK2.out _ _ HS3.out (fun hHeld => ?_)
        clear HK2
        try simp only [Act.put, List.getElem_toArray, List.getElem_cons_succ, List.getElem_cons_zero, List.setIfInBounds_toArray, List.set_cons_zero, List.set_cons_succ]
        clear K
        refine wpAnyH_take (i := 9) (v := .agg #[.int .u8 h.h.k, .int .u8 h.h.op, .int .i64 h.h.pl, .int .i64 h.h.n, .string h.h.name, .string h.h.arg, .string h.h.exn, .int .i64 h.rho, .slice v.ra h.rhos.length v.rc, .slice v.ea h.e.length v.ec, .int .u8 h.ty.h.k, .int .i64 h.ty.h.r, .slice v.tea h.ty.h.e.length v.tec, .slice v.tka h.ty.ks.length v.tkc, .int .u8 h.re.h.k, .int .i64 h.re.h.r, .slice v.sea h.re.h.e.length v.sec, .slice v.ska h.re.ks.length v.skc, .slice v.ka j v.kc]) rfl (by kernel_rfl) (by kernel_rfl) (by kernel_rfl) (fun _ _ _ h => h) (Or.inl ⟨by rfl, ?_⟩) (by assumption) ?_
        · intro w' hSw
          exact exec_at _ rfl N1 0 rfl (range_below HRG.out hSw)
        try simp only [Act.put, List.getElem_toArray, List.getElem_cons_succ, List.getElem_cons_zero, List.setIfInBounds_toArray, List.set_cons_zero, List.set_cons_succ]
        refine wpAnyH_take (i := 12) (v := .slice a m c) rfl (by kernel_rfl) (by kernel_rfl) (by kernel_rfl) (fun _ _ _ h => h) (Or.inl ⟨by rfl, ?_⟩) (by assumption) ?_
        · intro w' hSw
          first | (go_simp; done) | rfl
        try simp only [Act.put, List.getElem_toArray, List.getElem_cons_succ, List.getElem_cons_zero, List.setIfInBounds_toArray, List.set_cons_zero, List.set_cons_succ]
        refine wpAnyH_ready (rs := [10]) (by kernel_rfl) (by simp) ?_
        refine AllReadyH.cons rfl (fun K hK => ?_) AllReadyH.nil
        have HK2 := Lib.hid hK
        clear hK
        try rw [if_pos (by rfl)]
        go_simp
        have hal := box_new (w := v3) (.cells #[.int .u8 h.h.k, .int .u8 h.h.op, .int .i64 h.h.pl, .int .i64 h.h.n, .string h.h.name, .string h.h.arg, .string h.h.exn, .int .i64 h.rho, .slice v.ra h.rhos.length v.rc, .slice v.ea h.e.length v.ec, .int .u8 h.ty.h.k, .int .i64 h.ty.h.r, .slice v.tea h.ty.h.e.length v.tec, .slice v.tka h.ty.ks.length v.tkc, .int .u8 h.re.h.k, .int .i64 h.re.h.r, .slice v.sea h.re.h.e.length v.sec, .slice v.ska h.re.ks.length v.skc, .slice v.ka j v.kc] 33)
        have hrw : (v3.alloc (.cells #[.int .u8 h.h.k, .int .u8 h.h.op, .int .i64 h.h.pl, .int .i64 h.h.n, .string h.h.name, .string h.h.arg, .string h.h.exn, .int .i64 h.rho, .slice v.ra h.rhos.length v.rc, .slice v.ea h.e.length v.ec, .int .u8 h.ty.h.k, .int .i64 h.ty.h.r, .slice v.tea h.ty.h.e.length v.tec, .slice v.tka h.ty.ks.length v.tkc, .int .u8 h.re.h.k, .int .i64 h.re.h.r, .slice v.sea h.re.h.e.length v.sec, .slice v.ska h.re.ks.length v.skc, .slice v.ka j v.kc] 33)).rangeAt v3.heap.size 0 (acells h v j) := row_new rfl
        generalize hXA : v3.alloc (.cells #[.int .u8 h.h.k, .int .u8 h.h.op, .int .i64 h.h.pl, .int .i64 h.h.n, .string h.h.name, .string h.h.arg, .string h.h.exn, .int .i64 h.rho, .slice v.ra h.rhos.length v.rc, .slice v.ea h.e.length v.ec, .int .u8 h.ty.h.k, .int .i64 h.ty.h.r, .slice v.tea h.ty.h.e.length v.tec, .slice v.tka h.ty.ks.length v.tkc, .int .u8 h.re.h.k, .int .i64 h.re.h.r, .slice v.sea h.re.h.e.length v.sec, .slice v.ska h.re.ks.length v.skc, .slice v.ka j v.kc] 33) = XB at *
        clear hXA
        have hsa := below_then HS3.out hal HS3.out.size
        generalize hNB : v3.heap.size = NC at *
        have HSB := Lib.hid hsa; have XBR := Lib.hid hrw
        clear hal hsa hrw hNB
        refine HK2.out _ _ HSB.out (fun hHeld => ?_)
        clear HK2
        try simp only [Act.put, List.getElem_toArray, List.getElem_cons_succ, List.getElem_cons_zero, List.setIfInBounds_toArray, List.set_cons_zero, List.set_cons_succ]
        clear K
        refine wpAnyH_ready (rs := [11]) (by kernel_rfl) (by simp) ?_
        refine AllReadyH.cons rfl (fun K hK => ?_) AllReadyH.nil
        have HK2 := Lib.hid hK
        clear hK
        try rw [if_pos (by rfl)]
        go_simp
        refine (HBD1.out NC XB XBR.out (below_then HWR.out HSB.out HWR.out.size)).mono ?_
        rintro e v4 ⟨a4, c4, rfl, hix4, hb4⟩
        have hrd4 := RdI.of_own hix4 HBOKT.out
        have hS4 := below_then HSB.out hb4 HSB.out.size
        have hrd5 := RdI.of_own (own_below (own_below HI9.out HB.out) hS4) HBOKT.out
        have hq := equalInts_walkM (c := c4) (d := c) hrd4 hrd5 (by have := HBL.out; omega) (by have := HBL.out; have := HM.out; omega)
        rw [decide_eq_true rfl] at hq
        have HS4 := Lib.hid hS4; have HQ := Lib.hid hq
        clear hq hrd4 hrd5 hix4 hb4 hS4
        refine HK2.out _ _ HS4.out (fun hHeld => ?_)
        clear HK2
        try simp only [Act.put, List.getElem_toArray, List.getElem_cons_succ, List.getElem_cons_zero, List.setIfInBounds_toArray, List.set_cons_zero, List.set_cons_succ]
        clear K
        refine wpAnyH_ready (rs := [13]) (by kernel_rfl) (by simp) ?_
        refine AllReadyH.cons rfl (fun K hK => ?_) AllReadyH.nil
        have HK2 := Lib.hid hK
        clear hK
        try rw [if_pos (by rfl)]
        go_simp
        refine HQ.out.mono ?_
        rintro e v5 ⟨rfl, hb5⟩
        have HS5 := Lib.hid (below_then HS4.out hb5 HS4.out.size)
        clear hb5
        refine HK2.out _ _ HS5.out (fun hHeld => ?_)
        clear HK2
        try simp only [Act.put, List.getElem_toArray, List.getElem_cons_succ, List.getElem_cons_zero, List.setIfInBounds_toArray, List.set_cons_zero, List.set_cons_succ]
        clear K
        refine wpAnyH_ready (rs := [14]) (by kernel_rfl) (by simp) ?_
        refine AllReadyH.cons rfl (fun K hK => ?_) AllReadyH.nil
        have HK2 := Lib.hid hK
        clear hK
        try rw [if_pos (by rfl)]
        go_simp
        refine HK2.out _ _ HS5.out (fun hHeld => ?_)
        clear HK2
        try simp only [Act.put, List.getElem_toArray, List.getElem_cons_succ, List.getElem_cons_zero, List.setIfInBounds_toArray, List.set_cons_zero, List.set_cons_succ]
        clear K
        refine wpAnyH_ready (rs := [15]) (by kernel_rfl) (by simp) ?_
        refine AllReadyH.cons rfl (fun K hK => ?_) AllReadyH.nil
        have HK2 := Lib.hid hK
        clear hK
        try rw [if_pos (by rfl)]
        go_simp
        refine HK2.out _ _ HS5.out (fun hHeld => ?_)
        clear HK2
        try simp only [Act.put, List.getElem_toArray, List.getElem_cons_succ, List.getElem_cons_zero, List.setIfInBounds_toArray, List.set_cons_zero, List.set_cons_succ]
        clear K
        refine wpAnyH_ready (rs := [16]) (by kernel_rfl) (by simp) ?_
        refine AllReadyH.cons rfl (fun K hK => ?_) AllReadyH.nil
        have HK2 := Lib.hid hK
        clear hK
        try rw [if_pos (by rfl)]
        go_simp
        refine (HAW.out v5 (below_then HWR.out HS5.out HWR.out.size)).mono ?_
        rintro e v6 ⟨rfl, hb6⟩
        have HS6 := Lib.hid (below_then HS5.out hb6 HS5.out.size)
        clear hb6
        refine HK2.out _ _ HS6.out (fun hHeld => ?_)
        clear HK2
        try simp only [Act.put, List.getElem_toArray, List.getElem_cons_succ, List.getElem_cons_zero, List.setIfInBounds_toArray, List.set_cons_zero, List.set_cons_succ]
        clear K
        refine wpAnyH_ready (rs := [17]) (by kernel_rfl) (by simp) ?_
        refine AllReadyH.cons rfl (fun K hK => ?_) AllReadyH.nil
        have HK2 := Lib.hid hK
        clear hK
        try rw [if_pos (by rfl)]
        go_simp
        refine HK2.out _ _ HS6.out (fun hHeld => ?_)
        clear HK2
        try simp only [Act.put, List.getElem_toArray, List.getElem_cons_succ, List.getElem_cons_zero, List.setIfInBounds_toArray, List.set_cons_zero, List.set_cons_succ]
        clear K
        refine wpAnyH_ready (rs := [18]) (by kernel_rfl) (by simp) ?_
        refine AllReadyH.cons rfl (fun K hK => ?_) AllReadyH.nil
        have HK2 := Lib.hid hK
        clear hK
        try rw [if_pos (by rfl)]
        go_simp
        refine HK2.out _ _ HS6.out (fun hHeld => ?_)
        clear HK2
        try simp only [Act.put, List.getElem_toArray, List.getElem_cons_succ, List.getElem_cons_zero, List.setIfInBounds_toArray, List.set_cons_zero, List.set_cons_succ]
        clear K
        refine wpAnyH_done (by kernel_rfl) ?_ _
        clear hHeld
        go_wp2_with (fail)
        go_ret
        exact ⟨rfl, (below_then HWR.out HS6.out HWR.out.size)⟩
end Aterm
end Go.Proofs.YtolpdhkgkjnbfaaDoor
namespace Go.Proofs.YtolpdhkgkjnbfaaDoor
open Go.RowKit Go.ChangeShapes
namespace Words

/-- AN ARRAY OF TEXTS THAT READS AS A TABLE HOLDS THE TABLE's TEXTS, cell for cell. -/
theorem cells_of_strs {H : Type} {enc : TypeId × Value → H} {P : Program} {w : World} {base : Nat} {sp : Nat → Bool} {held : Bool} {fuel : Nat} {t e : TypeId} {n : Nat} {cs : List Value} {zs : List (List UInt8)} {p : List MemPlace}
    (ht : P.underlying t = some (.array n e)) (he : P.underlying e = some .string) (hce : P.cellsOf e = 1) (hct : P.cellsOf t = n)
    (h : DataW.trod enc P w base sp held fuel t cs = some (.agg (zs.map fun z => .lit (.string z)), p)) : cs = zs.map fun z => Value.string ⟨z.toArray⟩ := by
  cases fuel with
  | zero => simp [DataW.trod] at h
  | succ fuel =>
    simp only [DataW.trod, ht, hce, hct, Nat.mul_one] at h
    split at h
    · rename_i hl
      obtain ⟨xs, hm, hx⟩ := Option.map_eq_some_iff.1 h
      have hxs : xs.map (·.1) = zs.map fun z => (DataW.lit (.string z) : DataW H) := by
        have := congrArg Prod.fst hx
        simpa using this
      have hxl : xs.length = n := by simpa using Lib.mapM_length hm
      have hzl : zs.length = n := by
        have := congrArg List.length hxs
        simp at this
        omega
      apply List.ext_getElem?
      intro i
      by_cases hi : i < n
      · obtain ⟨b, hb, hf⟩ := Lib.mapM_at hm i i (by simp [hi])
        obtain ⟨z, hc, rfl, _⟩ := DataW.trod_string he hf
        have h1 : cs[i]? = some (.string z) := by
          have := congrArg (·[0]?) hc
          simpa [List.getElem?_take, List.getElem?_drop] using this
        have h2 : (xs.map (·.1))[i]? = some (DataW.lit (.string z.data.toList) : DataW H) := by simp [hb]
        rw [hxs] at h2
        simp only [List.getElem?_map, Option.map_eq_some_iff, DataW.lit.injEq, Lit.string.injEq] at h2
        obtain ⟨z', hz', e⟩ := h2
        simp [h1, hz', e]
      · rw [List.getElem?_eq_none (by omega), List.getElem?_eq_none (by simp; omega)]
    · cases h

theorem gKw : Tryd.prog.globalNamed "enclave/words.keywords" = some 0 := by kernel_rfl
theorem tKw : (Tryd.prog.globals[0]?).map (·.type) = some 100 := by kernel_rfl
theorem kwLaid_of {W : World} {r : List (String × DataW Unit)} (h : laidMet Tryd.prog (("enclave/words.keywords", Rows.laid_enclave_words_keywords) :: r) W) : KwLaid W := by
  obtain ⟨ps, ⟨g', t', cs, fuel, p, q, hg', ht', hvar, hd, _, _⟩, _⟩ := h
  obtain rfl := Option.some.inj (gKw.symm.trans hg')
  obtain rfl := Option.some.inj (tKw.symm.trans ht')
  have hcs := cells_of_strs (zs := kwTexts) Tryd.underlying100 Tryd.underlying9 (by kernel_rfl) (by kernel_rfl) hd
  intro k hk
  have := World.var?_cell gKw hvar k
  obtain ⟨l⟩ := cs
  simp only at hcs
  subst hcs
  have hk' : k < kwTexts.length := hk
  rw [this]
  simp [kwT, List.getD, hk']

end Words
end Go.Proofs.YtolpdhkgkjnbfaaDoor
