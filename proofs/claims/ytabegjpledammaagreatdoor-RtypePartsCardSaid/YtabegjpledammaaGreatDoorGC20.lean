/-The walk of RtypeParts. (Written by wip/tools/rtparts.py.) -/
import Derived.Test.YtabegjpledammaaGreatDoorGC17
import Derived.Test.YtabegjpledammaaGreatDoorGC19
import Derived.Test.YtabegjpledammaaGreatDoorGC18
namespace Go.Proofs.YtabegjpledammaaGreatDoor
open Go.RowKit
set_option linter.unusedVariables false
set_option linter.unusedSimpArgs false
namespace Rt
open Effect (At AtOk AtsAt Rd RdI ofA ret_i64 ret_bool lt_of_block heap_alloc_new NumLaid Ixs tidyI rhosOf putI UpI nget rho1)

/-! ### Mathematics -/
def Rng (x : Int) : Prop := -9223372036854775808 ≤ x ∧ x ≤ 9223372036854775807
theorem rhoH_rng {h : Hd} (hh : HdOk h) : ∀ x ∈ rhoH h, Rng x := by
  intro x hx
  unfold rhoH at hx
  split at hx
  · cases hx
  · rcases List.mem_cons.1 hx with rfl | hx
    · exact hh.r
    · have := (Effect.mem_tidy _ _).1 hx
      unfold Effect.rhosOf at this
      obtain ⟨y, hy, rfl⟩ := List.mem_map.1 this
      exact (hh.e y ((Effect.mem_of _ _).1 (List.mem_filter.1 hy).1).1).r
theorem rhoK_rng {w : World} {p : Option Addr} {ts : List RT} (h : Kids w p ts) : ∀ x ∈ rhoK ts, Rng x := by
  induction h with
  | nokids p => intro x hx; rw [rhoK_nil] at hx; cases hx
  | atkids b o ts q c qe ce hh hc hl he hk ih =>
    have : ∀ us : List RT, (∀ u ∈ us, ∀ x ∈ rhoT u, Rng x) → ∀ x ∈ rhoK us, Rng x := by
      intro us
      induction us with
      | nil => intro _ x hx; rw [rhoK_nil] at hx; cases hx
      | cons u us ihu =>
        intro hu x hx
        rw [rhoK_cons] at hx
        rcases List.mem_append.1 hx with hx | hx
        · exact hu u List.mem_cons_self x hx
        · exact ihu (fun y hy => hu y (List.mem_cons_of_mem _ hy)) x hx
    refine this ts (fun u hu => ?_)
    obtain ⟨i, hi, e⟩ := List.getElem_of_mem hu
    have e2 : tget ts i = u := by
      have := tget_at hi
      rw [List.getElem?_eq_getElem hi, e] at this
      exact (Option.some.inj this).symm
    have h1 := ih i hi
    have h2 := hh i hi
    rw [e2] at h1 h2
    intro x hx
    rw [rhoT_eq] at hx
    rcases List.mem_append.1 hx with hx | hx
    · exact rhoH_rng h2 x hx
    · exact h1 x hx
theorem rhoT_rng {w : World} {h : Hd} {pe : Option Addr} {ne ce : Nat} {p : Option Addr} {l c : Nat} {t : RT} (hT : RtIs w h pe ne ce p l c t) : ∀ x ∈ rhoK [t], Rng x := by
  intro x hx
  rw [rhoK_one, rhoT_eq, hT.head] at hx
  rcases List.mem_append.1 hx with hx | hx
  · exact rhoH_rng hT.ok x hx
  · exact rhoK_rng hT.kids x hx
theorem rhoK_len {n : Nat} {ts : List RT} (hef : allK (effB n) ts = true) : (rhoK ts).length ≤ (n + 1) * wts ts := by
  rw [(rho_flat _).2 ts (Nat.le_refl _)]
  have : ∀ l : List Hd, (∀ h ∈ l, h.e.length ≤ n) → (l.flatMap rhoH).length ≤ (n + 1) * l.length := by
    intro l
    induction l with
    | nil => intro _; simp
    | cons h l ih => intro hl; rw [List.flatMap_cons, List.length_append, List.length_cons, Nat.mul_succ]; have := rhoH_le h; have := hl h (by simp); have := ih (fun x hx => hl x (by simp [hx])); omega
  have h2 := this (hdsK ts) ((hds_all (C := fun h => h.e.length ≤ n) (fun h l hh => (eff_iff.1 hh).1) _).2 ts (Nat.le_refl _) hef)
  rwa [hdsK_len] at h2
theorem tidy_rng {l : List Int} (h : ∀ x ∈ l, Rng x) : ∀ x ∈ tidyI l, Rng x := fun x hx => h x ((Effect.mem_tidy l x).1 hx)
/-- The whole is its own regions, put to its kids'. -/
theorem rhos_put {t : RT} (h : rhoH t.h = [] ) : tidyI (rhoK [t]) = tidyI (rhoK t.ks) := by rw [rhoK_one, rhoT_eq, h, List.nil_append]
theorem rhos_puts {t : RT} {r : Int} {ps : List Int} (h : rhoH t.h = r :: ps) : tidyI (rhoK [t]) = ps.foldl putI (putI (tidyI (rhoK t.ks)) r) := by
  have hu := Effect.up_putI (Effect.up_tidy (rhoK t.ks)) r
  obtain ⟨h1, h2⟩ := Effect.fold_putI ps _ hu
  refine Effect.upI_uniq (Effect.up_tidy _) h1 fun x => ?_
  rw [Effect.mem_tidy, h2, Effect.mem_putI, Effect.mem_tidy, rhoK_one, rhoT_eq, h]
  simp
  constructor
  · rintro (h | h | h) <;> simp [h]
  · rintro ((h | h) | h) <;> simp [h]
theorem rd_ixs {B m c : Nat} {a : Option Addr} {W : World} {l : List Int} (h : Ixs B W (.slice a m c) m l) (hr : ∀ x ∈ l, Rng x) : RdI W m a l := Effect.RdI.of_own h hr
theorem one_rhos {w : World} {h : Hd} {pe : Option Addr} {ne ce : Nat} {p : Option Addr} {l c : Nat} {t : RT} (hT : RtIs w h pe ne ce p l c t) (hw : wt t ≤ 5000) (hef : allT (effB 10000) t = true) (W : World) (hb : Below w.heap.size w W) :
    Calls Tryz.prog 20 #[.slice (some ⟨W.heap.size, 0, none⟩) 1 1] (W.alloc (.cells #[.int .u8 h.k, .int .i64 h.r, .slice pe ne ce, .slice p l c] 25)) fun e w' => ∃ a' m c', e = .returned (.slice a' m c') ∧ RdI w' m a' (tidyI (rhoK [t])) ∧ Below W.heap.size W w' := by
  have h1 := rhos_walk [t] (some ⟨W.heap.size, 0, none⟩) 1 1 (W.alloc (.cells #[.int .u8 h.k, .int .i64 h.r, .slice pe ne ce, .slice p l c] 25)) rfl one_le (kids_one (hT.below hb) 25 _ rfl) (by rw [wts_cons, wts_nil]; omega) (by rw [allK_one]; exact hef)
  refine h1.mono ?_
  rintro e w' ⟨a', m, c', rfl, -, h2, h3⟩
  exact ⟨a', m, c', rfl, rd_ixs h2 (tidy_rng (rhoT_rng hT)), (box_new _).trans (h3.mono (by simp))⟩
theorem fold_sub : ∀ (k l : List Int), ∀ x ∈ l, x ∈ k.foldl putI l
  | [], l, x, hx => hx
  | y :: k, l, x, hx => fold_sub k (putI l y) x ((Effect.mem_putI l y x).2 (.inl hx))
theorem own_low {B B' n : Nat} {w : World} {v : Value} {l : List Int} (h : Ixs B w v n l) (hB : B' ≤ B) : Ixs B' w v n l := Effect.own_lower h hB
set_option maxRecDepth 100000 in
set_option maxHeartbeats 25600000 in
theorem rtypeParts_walk (h : Hd) (pe : Option Addr) (ne ce : Nat) (p : Option Addr) (l c : Nat) (t : RT) (w : World) (hT : RtIs w h pe ne ce p l c t) (hl : NumLaid w) :
    Calls Tryz.prog 5 #[.agg #[.int .u8 h.k, .int .i64 h.r, .slice pe ne ce, .slice p l c]] w fun e w' => e = .returned (.bool true) ∧ Below w.heap.size w w' := by
  have hg1 := fun W (hb : Below w.heap.size w W) => great_walk t h pe ne ce p l c W (hT.below hb)
  have haw := fun W (hb : Below w.heap.size w W) => awake_walk W (hl.below hb)
  have HG1 := Lib.hid hg1; have HAW := Lib.hid haw; have HT := Lib.hid hT
  clear hg1 haw hT hl
  obtain ⟨k, v, e⟩ := h
  have HXb := Lib.hid (show (w.alloc (.cells #[.int .u8 k, .int .i64 v, .slice pe ne ce, .slice p l c] 25)).heap[w.heap.size]? = some (.cells #[.int .u8 k, .int .i64 v, .slice pe ne ce, .slice p l c] 25 (0, 0)) from heap_alloc_new w _)
  have HWb := Lib.hid (show Below w.heap.size w (w.alloc (.cells #[.int .u8 k, .int .i64 v, .slice pe ne ce, .slice p l c] 25)) from box_new _)
  by_cases hgt : greatT t = true
  · have HGT := Lib.hid hgt
    clear hgt HT
    go_enter Tryz.func5, Tryz.ntmps5
    go_wp2_with (fail)
    refine (HG1.out _ HWb.out).mono ?_
    rintro en w1 ⟨rfl, hb1⟩
    have HW1 := Lib.hid (below_then HWb.out hb1 HWb.out.size)
    clear hb1
    rw [HGT.out]
    go_wp2_with (fail)
    refine (HAW.out _ HW1.out).mono ?_
    rintro en w2 ⟨rfl, hb2⟩
    have HW2 := Lib.hid (below_then HW1.out hb2 HW1.out.size)
    clear hb2
    go_wp2_with (fail)
    go_ret
    exact ⟨rfl, HW2.out⟩
  rw [Bool.not_eq_true] at hgt
  have hst := small_eff hgt
  have ht5 := eff_more (m := 100000) (by omega) hst.2
  have hwt := hst.1
  have hmay := fun W (hb : Below w.heap.size w W) => refMay_walk (wt t) t ⟨k, v, e⟩ pe ne ce p l c W (Nat.le_refl _) (HT.out.below hb) ht5
  cases hmt : mayT t
  · have HGT := Lib.hid hgt; have HMT := Lib.hid hmt; have HMAY := Lib.hid hmay
    clear hgt hmt hmay ht5 hst HT
    go_enter Tryz.func5, Tryz.ntmps5
    go_wp2_with (fail)
    refine (HG1.out _ HWb.out).mono ?_
    rintro en w1 ⟨rfl, hb⟩
    have HXw1 := Lib.hid ((hb.block _ (lt_of_block HXb.out)).trans HXb.out)
    have HWw1 := Lib.hid (below_then HWb.out hb HWb.out.size)
    clear hb
    obtain ⟨⟨c0, c1, c2, c3⟩, -⟩ := cells4 HXw1.out
    rw [HGT.out]
    go_wp2_with (fail)
    refine (HMAY.out _ HWw1.out).mono ?_
    rintro en w2 ⟨rfl, hb2⟩
    have HW2 := Lib.hid (below_then HWw1.out hb2 HWw1.out.size)
    clear hb2 c0 c1 c2 c3
    rw [HMT.out]
    go_wp2_with (fail)
    refine (HAW.out _ HW2.out).mono ?_
    rintro en w3 ⟨rfl, hb3⟩
    have HW3 := Lib.hid (below_then HW2.out hb3 HW2.out.size)
    clear hb3
    go_wp2_with (fail)
    go_ret
    exact ⟨rfl, HW3.out⟩
  have hks : wts t.ks + 1 = wt t := (wt_ks t).symm
  have hek2 := eff_len HT.out hst.2
  have hlm : l ≤ maxLen := Nat.le_trans HT.out.cap.1 HT.out.cap.2
  have hlenk := HT.out.len
  have hrk := fun W (hb : Below w.heap.size w W) => rhos_walk t.ks p l c W hlenk hlm (HT.out.kids.stay hb) (by omega) (eff_moreK (by omega) hek2.2)
  have hrw := fun W (hb : Below w.heap.size w W) => one_rhos HT.out (by omega) (eff_more (by omega) hst.2) W hb
  have hm2 := fun W (hb : Below w.heap.size w W) => may_walk t.ks p l c W hlenk hlm (HT.out.kids.stay hb) (eff_moreK (by omega) hek2.2)
  have hmk : mayK t.ks = true := (may_node hmt).2.2.2.2
  rw [hmk] at hm2
  have hs1 := fun W (hb : Below w.heap.size w W) => one_size HT.out (by omega) W hb
  have hs2 := fun W (hb : Below w.heap.size w W) => size_walk t.ks p l c W hlenk hlm (HT.out.kids.stay hb) (by omega)
  have hwe : ((wt t : Nat) : Int) = 1 + ((wts t.ks : Nat) : Int) := by omega
  rw [hwe] at hs1
  have hri := fun W (hb : Below w.heap.size w W) => Effect.refRhos_walk (c := ce) (HT.out.eff.below hb).rd (fun x hx => (HT.out.ok.e x hx).r) (by have := hek2.1; omega)
  have hrr := tidy_rng (rhoK_rng HT.out.kids)
  have hrl : (tidyI (rhoK t.ks)).length ≤ 20000 := by
    have h1 := tidy_le (rhoK t.ks)
    have h2 := rhoK_len hek2.2
    have h3 : (100 + 1) * wts t.ks ≤ (100 + 1) * 99 := Nat.mul_le_mul_left _ (by omega)
    omega
  have hvr := HT.out.ok.r
  have her := fun x (hx : x ∈ e) => (HT.out.ok.e x hx).r
  have hne := hek2.1
  have hmn := may_node hmt
  have hhd := HT.out.head
  have hfin : ∀ (L : List Int), L = tidyI (rhoK [t]) → ∀ x ∈ L, Rng x := fun L hL x hx => tidy_rng (rhoT_rng HT.out) x (by rw [← hL]; exact hx)
  have hs1w : IntKind.i64.wrap (1 + ((wts t.ks : Nat) : Int)) = 1 + ((wts t.ks : Nat) : Int) := IntWalk.i64_in _ (by omega)
  have hkpos := HT.out.ok.k
  simp only at hs1 hrw hri hvr her hkpos
  rw [hhd] at hmn
  have HMAY := Lib.hid hmay; have HRK := Lib.hid hrk; have HRW := Lib.hid hrw; have HM2 := Lib.hid hm2; have HS1 := Lib.hid hs1; have HS2 := Lib.hid hs2; have HRI := Lib.hid hri; have HRR := Lib.hid hrr; have HRL := Lib.hid hrl; have HGT := Lib.hid hgt; have HMT := Lib.hid hmt; have HMN := Lib.hid hmn; have HHD := Lib.hid hhd; have HER := Lib.hid her; have HVR := Lib.hid hvr; have HFIN := Lib.hid hfin; have HNE := Lib.hid hne
  clear hst ht5 hwt hmay hks hek2 hlm hlenk hrk hrw hm2 hmk hs1 hs2 hwe hri hrr hrl hgt hmt hmn hhd her hvr hfin hne HT
  generalize ((wts t.ks : Nat) : Int) = wk at *
  go_enter Tryz.func5, Tryz.ntmps5
  go_wp2_with (fail)
  refine (HG1.out _ HWb.out).mono ?_
  rintro en w1 ⟨rfl, hb⟩
  have HXw1 := Lib.hid ((hb.block _ (lt_of_block HXb.out)).trans HXb.out)
  have HWw1 := Lib.hid (below_then HWb.out hb HWb.out.size)
  clear hb
  obtain ⟨⟨c0, c1, c2, c3⟩, -⟩ := cells4 HXw1.out
  rw [HGT.out]
  go_wp2_with (fail)
  refine (HMAY.out _ HWw1.out).mono ?_
  rintro en w2 ⟨rfl, hb⟩
  clear c0 c1 c2 c3
  have HXw2 := Lib.hid ((hb.block _ (lt_of_block HXw1.out)).trans HXw1.out)
  have HWw2 := Lib.hid (below_then HWw1.out hb HWw1.out.size)
  clear hb
  obtain ⟨⟨c0, c1, c2, c3⟩, -⟩ := cells4 HXw2.out
  rw [HMT.out]
  go_wp2_with (fail)
  refine (HRK.out _ HWw2.out).mono ?_
  rintro en w3 ⟨a3, m3, d3, rfl, -, hi, hb⟩
  clear c0 c1 c2 c3
  have HXw3 := Lib.hid ((hb.block _ (lt_of_block HXw2.out)).trans HXw2.out)
  have HWw3 := Lib.hid (below_then HWw2.out hb HWw2.out.size)
  have HI3 := Lib.hid hi
  have HM3 := Lib.hid (show m3 ≤ 20000 by rw [← ixs_len hi]; exact HRL.out)
  clear hb hi
  obtain ⟨⟨c0, c1, c2, c3⟩, -⟩ := cells4 HXw3.out
  by_cases hk : k = 1
  · subst hk
    have hrd : RdI w3 m3 a3 (tidyI (rhoK [t])) := by
      have := rd_ixs HI3.out HRR.out
      rw [← rhos_put (t := t) (by rw [HHD.out]; unfold rhoH; simp)] at this
      exact this
    have HRD := Lib.hid hrd
    have HML := Lib.hid (show m3 ≤ 90000 by have := HM3.out; omega)
    clear hrd
    go_upto_region 11 with (fail)
    clear c0 c1 c2 c3
    have HRDv0 := Lib.hid (HRD.out.below (Below.refl _ _).drew)
    have HXv0 := Lib.hid (show w3.drew.heap[w.heap.size]? = some (.cells #[.int .u8 1, .int .i64 v, .slice pe ne ce, .slice p l c] 25 (0, 0)) from HXw3.out)
    have HWv0 := Lib.hid (HWw3.out.drew)
    refine wp_region_held_drew (S := fun (V : World) => V.heap[w.heap.size]? = some (.cells #[.int .u8 1, .int .i64 v, .slice pe ne ce, .slice p l c] 25 (0, 0)) ∧ True) (by kernel_rfl) ⟨HXw3.out, trivial⟩ (fun hHeld => ?_)
    generalize w3.drew = v0 at *
    refine wpAnyH_take (i := 0) (v := .agg #[.int .u8 1, .int .i64 v, .slice pe ne ce, .slice p l c]) rfl (by kernel_rfl) (by kernel_rfl) (by kernel_rfl) (fun _ _ _ h => h) (Or.inl ⟨by rfl, ?_⟩) (by assumption) ?_
    · intro w' hSw
      obtain ⟨⟨y0, y1, y2, y3⟩, -⟩ := cells4 hSw.1
      first | (go_simp; done) | (go_simp; intro h0; omega) | rfl
    try simp only [Act.put, List.getElem_toArray, List.getElem_cons_succ, List.getElem_cons_zero, List.setIfInBounds_toArray, List.set_cons_zero, List.set_cons_succ]
    refine wpAnyH_take (i := 3) (v := .slice a3 m3 d3) rfl (by kernel_rfl) (by kernel_rfl) (by kernel_rfl) (fun _ _ _ h => h) (Or.inl ⟨by rfl, ?_⟩) (by assumption) ?_
    · intro w' hSw
      first | (go_simp; done) | (go_simp; intro h0; omega) | rfl
    try simp only [Act.put, List.getElem_toArray, List.getElem_cons_succ, List.getElem_cons_zero, List.setIfInBounds_toArray, List.set_cons_zero, List.set_cons_succ]
    have HXs1 := Lib.hid (((box_new (w := v0) (.cells #[.int .u8 1, .int .i64 v, .slice pe ne ce, .slice p l c] 25)).block _ (lt_of_block HXv0.out)).trans HXv0.out)
    refine wpAnyH_ready (rs := [1]) (by kernel_rfl) (by simp) ?_
    refine AllReadyH.cons rfl (fun K hK => ?_) AllReadyH.nil
    have HK2 := Lib.hid hK
    clear hK
    try rw [if_pos (by rfl)]
    go_simp
    refine HK2.out _ _ ⟨HXs1.out, trivial⟩ (fun hHeld => ?_)
    clear HK2
    try simp only [Act.put, List.getElem_toArray, List.getElem_cons_succ, List.getElem_cons_zero, List.setIfInBounds_toArray, List.set_cons_zero, List.set_cons_succ]
    clear K
    refine wpAnyH_ready (rs := [2]) (by kernel_rfl) (by simp) ?_
    refine AllReadyH.cons rfl (fun K hK => ?_) AllReadyH.nil
    have HK2 := Lib.hid hK
    clear hK
    try rw [if_pos (by rfl)]
    go_simp
    refine (HRW.out _ HWv0.out).mono ?_
    rintro en v1 ⟨a9, m9, d9, rfl, hrd9, hb⟩
    have HXv1 := Lib.hid ((hb.block _ (lt_of_block HXv0.out)).trans HXv0.out)
    have HWv1 := Lib.hid (below_then HWv0.out hb HWv0.out.size)
    have HR9 := Lib.hid hrd9
    have HRDv1 := Lib.hid (HRDv0.out.below hb)
    clear hrd9
    clear hb
    refine HK2.out _ _ ⟨HXv1.out, trivial⟩ (fun hHeld => ?_)
    clear HK2
    try simp only [Act.put, List.getElem_toArray, List.getElem_cons_succ, List.getElem_cons_zero, List.setIfInBounds_toArray, List.set_cons_zero, List.set_cons_succ]
    clear K
    refine wpAnyH_ready (rs := [4]) (by kernel_rfl) (by simp) ?_
    refine AllReadyH.cons rfl (fun K hK => ?_) AllReadyH.nil
    have HK2 := Lib.hid hK
    clear hK
    try rw [if_pos (by rfl)]
    go_simp
    refine (Effect.equalInts_walk (c := d9) (d := d3) HR9.out HRDv1.out (by have := HR9.out.len; have := HRDv1.out.len; have := HML.out; omega) (by have := HML.out; omega) rfl).mono ?_
    rintro en v2 ⟨rfl, hb⟩
    have HXv2 := Lib.hid ((hb.block _ (lt_of_block HXv1.out)).trans HXv1.out)
    have HWv2 := Lib.hid (below_then HWv1.out hb HWv1.out.size)
    clear hb
    refine HK2.out _ _ ⟨HXv2.out, trivial⟩ (fun hHeld => ?_)
    clear HK2
    try simp only [Act.put, List.getElem_toArray, List.getElem_cons_succ, List.getElem_cons_zero, List.setIfInBounds_toArray, List.set_cons_zero, List.set_cons_succ]
    clear K
    refine wpAnyH_take (i := 5) (v := .bool true) rfl (by kernel_rfl) (by kernel_rfl) (by kernel_rfl) (fun _ _ _ h => h) (Or.inl ⟨by rfl, ?_⟩) (by assumption) ?_
    · intro w' hSw
      first | (go_simp; done) | (go_simp; intro h0; omega) | rfl
    try simp only [Act.put, List.getElem_toArray, List.getElem_cons_succ, List.getElem_cons_zero, List.setIfInBounds_toArray, List.set_cons_zero, List.set_cons_succ]
    refine wpAnyH_take (i := 6) (v := .pointer (some ⟨w.heap.size, 3, none⟩)) rfl (by kernel_rfl) (by kernel_rfl) (by kernel_rfl) (fun _ _ _ h => h) (Or.inl ⟨by rfl, ?_⟩) (by assumption) ?_
    · intro w' hSw
      first | (go_simp; done) | (go_simp; intro h0; omega) | rfl
    try simp only [Act.put, List.getElem_toArray, List.getElem_cons_succ, List.getElem_cons_zero, List.setIfInBounds_toArray, List.set_cons_zero, List.set_cons_succ]
    refine wpAnyH_take (i := 7) (v := .slice p l c) rfl (by kernel_rfl) (by kernel_rfl) (by kernel_rfl) (fun _ _ _ h => h) (Or.inl ⟨by rfl, ?_⟩) (by assumption) ?_
    · intro w' hSw
      obtain ⟨⟨y0, y1, y2, y3⟩, -⟩ := cells4 hSw.1
      first | (go_simp; done) | (go_simp; intro h0; omega) | rfl
    try simp only [Act.put, List.getElem_toArray, List.getElem_cons_succ, List.getElem_cons_zero, List.setIfInBounds_toArray, List.set_cons_zero, List.set_cons_succ]
    refine wpAnyH_ready (rs := [8]) (by kernel_rfl) (by simp) ?_
    refine AllReadyH.cons rfl (fun K hK => ?_) AllReadyH.nil
    have HK2 := Lib.hid hK
    clear hK
    try rw [if_pos (by rfl)]
    go_simp
    refine (HM2.out _ HWv2.out).mono ?_
    rintro en v3 ⟨rfl, hb⟩
    have HXv3 := Lib.hid ((hb.block _ (lt_of_block HXv2.out)).trans HXv2.out)
    have HWv3 := Lib.hid (below_then HWv2.out hb HWv2.out.size)
    clear hb
    refine HK2.out _ _ ⟨HXv3.out, trivial⟩ (fun hHeld => ?_)
    clear HK2
    try simp only [Act.put, List.getElem_toArray, List.getElem_cons_succ, List.getElem_cons_zero, List.setIfInBounds_toArray, List.set_cons_zero, List.set_cons_succ]
    clear K
    refine wpAnyH_take (i := 9) (v := .bool true) rfl (by kernel_rfl) (by kernel_rfl) (by kernel_rfl) (fun _ _ _ h => h) (Or.inl ⟨by rfl, ?_⟩) (by assumption) ?_
    · intro w' hSw
      first | (go_simp; done) | (go_simp; intro h0; omega) | rfl
    try simp only [Act.put, List.getElem_toArray, List.getElem_cons_succ, List.getElem_cons_zero, List.setIfInBounds_toArray, List.set_cons_zero, List.set_cons_succ]
    refine wpAnyH_take (i := 10) (v := .bool true) rfl (by kernel_rfl) (by kernel_rfl) (by kernel_rfl) (fun _ _ _ h => h) (Or.inl ⟨by rfl, ?_⟩) (by assumption) ?_
    · intro w' hSw
      first | (go_simp; done) | (go_simp; intro h0; omega) | rfl
    try simp only [Act.put, List.getElem_toArray, List.getElem_cons_succ, List.getElem_cons_zero, List.setIfInBounds_toArray, List.set_cons_zero, List.set_cons_succ]
    refine wpAnyH_take (i := 11) (v := .agg #[.int .u8 1, .int .i64 v, .slice pe ne ce, .slice p l c]) rfl (by kernel_rfl) (by kernel_rfl) (by kernel_rfl) (fun _ _ _ h => h) (Or.inl ⟨by rfl, ?_⟩) (by assumption) ?_
    · intro w' hSw
      obtain ⟨⟨y0, y1, y2, y3⟩, -⟩ := cells4 hSw.1
      first | (go_simp; done) | (go_simp; intro h0; omega) | rfl
    try simp only [Act.put, List.getElem_toArray, List.getElem_cons_succ, List.getElem_cons_zero, List.setIfInBounds_toArray, List.set_cons_zero, List.set_cons_succ]
    refine wpAnyH_take (i := 14) (v := .pointer (some ⟨w.heap.size, 3, none⟩)) rfl (by kernel_rfl) (by kernel_rfl) (by kernel_rfl) (fun _ _ _ h => h) (Or.inl ⟨by rfl, ?_⟩) (by assumption) ?_
    · intro w' hSw
      first | (go_simp; done) | (go_simp; intro h0; omega) | rfl
    try simp only [Act.put, List.getElem_toArray, List.getElem_cons_succ, List.getElem_cons_zero, List.setIfInBounds_toArray, List.set_cons_zero, List.set_cons_succ]
    refine wpAnyH_take (i := 15) (v := .slice p l c) rfl (by kernel_rfl) (by kernel_rfl) (by kernel_rfl) (fun _ _ _ h => h) (Or.inl ⟨by rfl, ?_⟩) (by assumption) ?_
    · intro w' hSw
      obtain ⟨⟨y0, y1, y2, y3⟩, -⟩ := cells4 hSw.1
      first | (go_simp; done) | (go_simp; intro h0; omega) | rfl
    try simp only [Act.put, List.getElem_toArray, List.getElem_cons_succ, List.getElem_cons_zero, List.setIfInBounds_toArray, List.set_cons_zero, List.set_cons_succ]
    have HXs12 := Lib.hid (((box_new (w := v3) (.cells #[.int .u8 1, .int .i64 v, .slice pe ne ce, .slice p l c] 25)).block _ (lt_of_block HXv3.out)).trans HXv3.out)
    refine wpAnyH_ready (rs := [12]) (by kernel_rfl) (by simp) ?_
    refine AllReadyH.cons rfl (fun K hK => ?_) AllReadyH.nil
    have HK2 := Lib.hid hK
    clear hK
    try rw [if_pos (by rfl)]
    go_simp
    refine HK2.out _ _ ⟨HXs12.out, trivial⟩ (fun hHeld => ?_)
    clear HK2
    try simp only [Act.put, List.getElem_toArray, List.getElem_cons_succ, List.getElem_cons_zero, List.setIfInBounds_toArray, List.set_cons_zero, List.set_cons_succ]
    clear K
    refine wpAnyH_ready (rs := [13]) (by kernel_rfl) (by simp) ?_
    refine AllReadyH.cons rfl (fun K hK => ?_) AllReadyH.nil
    have HK2 := Lib.hid hK
    clear hK
    try rw [if_pos (by rfl)]
    go_simp
    refine (HS1.out _ HWv3.out).mono ?_
    rintro en v4 ⟨rfl, hb⟩
    have HXv4 := Lib.hid ((hb.block _ (lt_of_block HXv3.out)).trans HXv3.out)
    have HWv4 := Lib.hid (below_then HWv3.out hb HWv3.out.size)
    clear hb
    refine HK2.out _ _ ⟨HXv4.out, trivial⟩ (fun hHeld => ?_)
    clear HK2
    try simp only [Act.put, List.getElem_toArray, List.getElem_cons_succ, List.getElem_cons_zero, List.setIfInBounds_toArray, List.set_cons_zero, List.set_cons_succ]
    clear K
    refine wpAnyH_ready (rs := [16]) (by kernel_rfl) (by simp) ?_
    refine AllReadyH.cons rfl (fun K hK => ?_) AllReadyH.nil
    have HK2 := Lib.hid hK
    clear hK
    try rw [if_pos (by rfl)]
    go_simp
    refine (HS2.out _ HWv4.out).mono ?_
    rintro en v5 ⟨rfl, hb⟩
    have HXv5 := Lib.hid ((hb.block _ (lt_of_block HXv4.out)).trans HXv4.out)
    have HWv5 := Lib.hid (below_then HWv4.out hb HWv4.out.size)
    clear hb
    refine HK2.out _ _ ⟨HXv5.out, trivial⟩ (fun hHeld => ?_)
    clear HK2
    try simp only [Act.put, List.getElem_toArray, List.getElem_cons_succ, List.getElem_cons_zero, List.setIfInBounds_toArray, List.set_cons_zero, List.set_cons_succ]
    clear K
    refine wpAnyH_take (i := 17) (v := .int .i64 (1 + wk)) rfl (by kernel_rfl) (by kernel_rfl) (by kernel_rfl) (fun _ _ _ h => h) (Or.inl ⟨by rfl, ?_⟩) (by assumption) ?_
    · intro w' hSw
      first | (go_simp; done) | (go_simp; intro h0; omega) | rfl
    try simp only [Act.put, List.getElem_toArray, List.getElem_cons_succ, List.getElem_cons_zero, List.setIfInBounds_toArray, List.set_cons_zero, List.set_cons_succ]
    refine wpAnyH_take (i := 18) (v := .bool true) rfl (by kernel_rfl) (by kernel_rfl) (by kernel_rfl) (fun _ _ _ h => h) (Or.inl ⟨by rfl, ?_⟩) (by assumption) ?_
    · intro w' hSw
      first | (go_simp; done) | (go_simp; intro h0; omega) | rfl
    try simp only [Act.put, List.getElem_toArray, List.getElem_cons_succ, List.getElem_cons_zero, List.setIfInBounds_toArray, List.set_cons_zero, List.set_cons_succ]
    refine wpAnyH_take (i := 19) (v := .bool true) rfl (by kernel_rfl) (by kernel_rfl) (by kernel_rfl) (fun _ _ _ h => h) (Or.inl ⟨by rfl, ?_⟩) (by assumption) ?_
    · intro w' hSw
      first | (go_simp; done) | (go_simp; intro h0; omega) | rfl
    try simp only [Act.put, List.getElem_toArray, List.getElem_cons_succ, List.getElem_cons_zero, List.setIfInBounds_toArray, List.set_cons_zero, List.set_cons_succ]
    refine wpAnyH_take (i := 20) (v := .bool true) rfl (by kernel_rfl) (by kernel_rfl) (by kernel_rfl) (fun _ _ _ h => h) (Or.inl ⟨by rfl, ?_⟩) (by assumption) ?_
    · intro w' hSw
      first | (go_simp; done) | (go_simp; intro h0; omega) | rfl
    try simp only [Act.put, List.getElem_toArray, List.getElem_cons_succ, List.getElem_cons_zero, List.setIfInBounds_toArray, List.set_cons_zero, List.set_cons_succ]
    refine wpAnyH_ready (rs := [21]) (by kernel_rfl) (by simp) ?_
    refine AllReadyH.cons rfl (fun K hK => ?_) AllReadyH.nil
    have HK2 := Lib.hid hK
    clear hK
    try rw [if_pos (by rfl)]
    go_simp
    refine (HAW.out _ HWv5.out).mono ?_
    rintro en v6 ⟨rfl, hb⟩
    have HXv6 := Lib.hid ((hb.block _ (lt_of_block HXv5.out)).trans HXv5.out)
    have HWv6 := Lib.hid (below_then HWv5.out hb HWv5.out.size)
    clear hb
    refine HK2.out _ _ ⟨HXv6.out, trivial⟩ (fun hHeld => ?_)
    clear HK2
    try simp only [Act.put, List.getElem_toArray, List.getElem_cons_succ, List.getElem_cons_zero, List.setIfInBounds_toArray, List.set_cons_zero, List.set_cons_succ]
    clear K
    refine wpAnyH_take (i := 22) (v := .bool true) rfl (by kernel_rfl) (by kernel_rfl) (by kernel_rfl) (fun _ _ _ h => h) (Or.inl ⟨by rfl, ?_⟩) (by assumption) ?_
    · intro w' hSw
      first | (go_simp; done) | (go_simp; intro h0; omega) | rfl
    try simp only [Act.put, List.getElem_toArray, List.getElem_cons_succ, List.getElem_cons_zero, List.setIfInBounds_toArray, List.set_cons_zero, List.set_cons_succ]
    refine wpAnyH_take (i := 23) (v := .bool true) rfl (by kernel_rfl) (by kernel_rfl) (by kernel_rfl) (fun _ _ _ h => h) (Or.inl ⟨by rfl, ?_⟩) (by assumption) ?_
    · intro w' hSw
      first | (go_simp; done) | (go_simp; intro h0; omega) | rfl
    try simp only [Act.put, List.getElem_toArray, List.getElem_cons_succ, List.getElem_cons_zero, List.setIfInBounds_toArray, List.set_cons_zero, List.set_cons_succ]
    refine wpAnyH_done (by kernel_rfl) ?_ _
    clear hHeld
    go_wp2_with (fail)
    go_ret
    exact ⟨rfl, HWv6.out⟩
  have hk2 : (k != 1) = true := by simpa using hk
  have hk3 : (k == 1) = false := by simpa using hk
  have hrho : rhoH t.h = v :: e.foldl rho1 [] := by
    rw [HHD.out]
    unfold rhoH
    rw [if_neg hk]
    have he : e = ofA e := HMN.out.2.2.2.1
    rw [Effect.rho_fold (l := e) (fun x hx => ((Effect.mem_of e x).1 (by rw [← he]; exact hx)).2), ← he]
  have heq := rhos_puts hrho
  have HEQ := Lib.hid heq
  have hpr : ∀ x ∈ putI (tidyI (rhoK t.ks)) v, Rng x := fun x hx => by
    rcases (Effect.mem_putI _ _ _).1 hx with hx | rfl
    · exact HRR.out x hx
    · exact HVR.out
  have HPR := Lib.hid hpr
  have HPI := Lib.hid (Effect.refPutInt_walk (x := v) (own_low HI3.out HWw2.out.size) HWw3.out.size HRR.out (by have := HM3.out; omega))
  clear hrho heq hpr hk
  generalize tidyI (rhoK t.ks) = L0 at *
  generalize e.foldl rho1 [] = ps at *
  go_wp2_with (fail)
  refine HPI.out.mono ?_
  rintro en w4 ⟨a4, m4, d4, rfl, hm, hi, hb⟩
  clear c0 c1 c2 c3
  have HXw4 := Lib.hid ((hb.block _ (lt_of_block HXw3.out)).trans HXw3.out)
  have HWw4 := Lib.hid (below_then HWw3.out hb HWw3.out.size)
  have HI4 := Lib.hid hi
  have HM4 := Lib.hid (show m4 ≤ 20001 by have := HM3.out; omega)
  clear hb hi hm HPI HI3
  obtain ⟨⟨c0, c1, c2, c3⟩, -⟩ := cells4 HXw4.out
  go_wp2_with (fail)
  refine (HRI.out _ HWw4.out).mono ?_
  rintro en w5 ⟨a5, m5, d5, rfl, hm, hi, hb⟩
  clear c0 c1 c2 c3
  have HXw5 := Lib.hid ((hb.block _ (lt_of_block HXw4.out)).trans HXw4.out)
  have HWw5 := Lib.hid (below_then HWw4.out hb HWw4.out.size)
  have HI5 := Lib.hid (Effect.own_below HI4.out hb : Ixs _ w5 _ _ _)
  have HP5 := Lib.hid hi
  have hm5 : m5 ≤ 100 := by have := HNE.out; omega
  clear hb hi hm HI4
  have hpl : ps.length = m5 := HP5.out.len
  have HPL := Lib.hid hpl
  clear hpl
  go_wp2_with (fail)
  go_loopw [3, 5] (fun x3 i wr => ∃ (j m : Nat) (a : Option Addr) (d : Nat), j ≤ m5 ∧ i = .int .i64 (j : Int) ∧ x3 = .slice a m d ∧ Hid (m ≤ 20001 + j) ∧ Hid (Ixs w.heap.size wr (.slice a m d) m ((ps.take j).foldl putI (putI L0 v))) ∧ Hid (Below w5.heap.size w5 wr)) (fun _ i _ => m5 - (intOf i).toNat)
  case atStart => exact ⟨0, m4, a4, d4, Nat.zero_le _, rfl, rfl, Lib.hid (by have := HM4.out; omega), Lib.hid (by rw [List.take_zero]; exact HI5.out), Lib.hid (Below.refl _ _)⟩
  case round =>
    obtain ⟨j, m, a, d, hj, rfl, rfl, HMM, HIX, HB⟩ := hrel
    have HWR := Lib.hid (below_then HWw5.out HB.out HWw5.out.size)
    by_cases hlt : j < m5
    · have hjl : j < ps.length := by rw [HPL.out]; exact hlt
      obtain ⟨bq, oq, hq, hc⟩ := (HP5.out.below HB.out).get j hjl
      subst hq
      have htk : ps.take (j + 1) = ps.take j ++ [nget ps j] := Effect.ints_take ps j hjl
      have hrg : ∀ x ∈ (ps.take j).foldl putI (putI L0 v), Rng x := fun x hx => HFIN.out _ rfl x (by
        rw [HEQ.out]
        have h1 : ps = ps.take j ++ ps.drop j := (List.take_append_drop j ps).symm
        rw [h1, List.foldl_append]
        exact fold_sub _ _ x hx)
      have hpi := Effect.refPutInt_walk (c := d) (x := nget ps j) HIX.out HWR.out.size hrg (by have := HMM.out; omega)
      have HPI := Lib.hid hpi; have HTK := Lib.hid htk
      clear hjl htk hrg hpi
      go_wp2_with (fail)
      refine HPI.out.mono ?_
      rintro en w6 ⟨a6, m6, d6, rfl, hm6, hi6, hb6⟩
      have HB6 := Lib.hid (below_then HB.out hb6 HB.out.size); have HI6 := Lib.hid hi6
      have HM6 := Lib.hid (show m6 ≤ 20001 + (j + 1) by have := HMM.out; omega)
      clear hm6 hi6 hb6 hc
      go_wp2
      go_roundw
      case rel => exact ⟨j + 1, m6, a6, d6, by omega, by go_num, rfl, HM6, Lib.hid (by rw [HTK.out, List.foldl_append]; exact HI6.out), HB6⟩
      case measure => simp [intOf]; omega
    · obtain rfl : j = m5 := by omega
      have hrd : RdI wr m a (tidyI (rhoK [t])) := by
        have h1 := HIX.out
        rw [List.take_of_length_le (by rw [HPL.out]; exact Nat.le_refl _), ← HEQ.out] at h1
        exact rd_ixs h1 (HFIN.out _ rfl)
      have HRD := Lib.hid hrd
      have HML := Lib.hid (show m ≤ 90000 by have := HMM.out; omega)
      have HXwr := Lib.hid ((HB.out.block _ (lt_of_block HXw5.out)).trans HXw5.out)
      have HWwr := HWR
      clear hrd
      go_upto_region 11 with (fail)
      have HRDv0 := Lib.hid (HRD.out.below (Below.refl _ _).drew)
      have HXv0 := Lib.hid (show wr.drew.heap[w.heap.size]? = some (.cells #[.int .u8 k, .int .i64 v, .slice pe ne ce, .slice p l c] 25 (0, 0)) from HXwr.out)
      have HWv0 := Lib.hid (HWwr.out.drew)
      refine wp_region_held_drew (S := fun (V : World) => V.heap[w.heap.size]? = some (.cells #[.int .u8 k, .int .i64 v, .slice pe ne ce, .slice p l c] 25 (0, 0)) ∧ True) (by kernel_rfl) ⟨HXwr.out, trivial⟩ (fun hHeld => ?_)
      generalize wr.drew = v0 at *
      refine wpAnyH_take (i := 0) (v := .agg #[.int .u8 k, .int .i64 v, .slice pe ne ce, .slice p l c]) rfl (by kernel_rfl) (by kernel_rfl) (by kernel_rfl) (fun _ _ _ h => h) (Or.inl ⟨by rfl, ?_⟩) (by assumption) ?_
      · intro w' hSw
        obtain ⟨⟨y0, y1, y2, y3⟩, -⟩ := cells4 hSw.1
        first | (go_simp; done) | (go_simp; intro h0; omega) | rfl
      try simp only [Act.put, List.getElem_toArray, List.getElem_cons_succ, List.getElem_cons_zero, List.setIfInBounds_toArray, List.set_cons_zero, List.set_cons_succ]
      refine wpAnyH_take (i := 3) (v := .slice a m d) rfl (by kernel_rfl) (by kernel_rfl) (by kernel_rfl) (fun _ _ _ h => h) (Or.inl ⟨by rfl, ?_⟩) (by assumption) ?_
      · intro w' hSw
        first | (go_simp; done) | (go_simp; intro h0; omega) | rfl
      try simp only [Act.put, List.getElem_toArray, List.getElem_cons_succ, List.getElem_cons_zero, List.setIfInBounds_toArray, List.set_cons_zero, List.set_cons_succ]
      have HXs1 := Lib.hid (((box_new (w := v0) (.cells #[.int .u8 k, .int .i64 v, .slice pe ne ce, .slice p l c] 25)).block _ (lt_of_block HXv0.out)).trans HXv0.out)
      refine wpAnyH_ready (rs := [1]) (by kernel_rfl) (by simp) ?_
      refine AllReadyH.cons rfl (fun K hK => ?_) AllReadyH.nil
      have HK2 := Lib.hid hK
      clear hK
      try rw [if_pos (by rfl)]
      go_simp
      refine HK2.out _ _ ⟨HXs1.out, trivial⟩ (fun hHeld => ?_)
      clear HK2
      try simp only [Act.put, List.getElem_toArray, List.getElem_cons_succ, List.getElem_cons_zero, List.setIfInBounds_toArray, List.set_cons_zero, List.set_cons_succ]
      clear K
      refine wpAnyH_ready (rs := [2]) (by kernel_rfl) (by simp) ?_
      refine AllReadyH.cons rfl (fun K hK => ?_) AllReadyH.nil
      have HK2 := Lib.hid hK
      clear hK
      try rw [if_pos (by rfl)]
      go_simp
      refine (HRW.out _ HWv0.out).mono ?_
      rintro en v1 ⟨a9, m9, d9, rfl, hrd9, hb⟩
      have HXv1 := Lib.hid ((hb.block _ (lt_of_block HXv0.out)).trans HXv0.out)
      have HWv1 := Lib.hid (below_then HWv0.out hb HWv0.out.size)
      have HR9 := Lib.hid hrd9
      have HRDv1 := Lib.hid (HRDv0.out.below hb)
      clear hrd9
      clear hb
      refine HK2.out _ _ ⟨HXv1.out, trivial⟩ (fun hHeld => ?_)
      clear HK2
      try simp only [Act.put, List.getElem_toArray, List.getElem_cons_succ, List.getElem_cons_zero, List.setIfInBounds_toArray, List.set_cons_zero, List.set_cons_succ]
      clear K
      refine wpAnyH_ready (rs := [4]) (by kernel_rfl) (by simp) ?_
      refine AllReadyH.cons rfl (fun K hK => ?_) AllReadyH.nil
      have HK2 := Lib.hid hK
      clear hK
      try rw [if_pos (by rfl)]
      go_simp
      refine (Effect.equalInts_walk (c := d9) (d := d) HR9.out HRDv1.out (by have := HR9.out.len; have := HRDv1.out.len; have := HML.out; omega) (by have := HML.out; omega) rfl).mono ?_
      rintro en v2 ⟨rfl, hb⟩
      have HXv2 := Lib.hid ((hb.block _ (lt_of_block HXv1.out)).trans HXv1.out)
      have HWv2 := Lib.hid (below_then HWv1.out hb HWv1.out.size)
      clear hb
      refine HK2.out _ _ ⟨HXv2.out, trivial⟩ (fun hHeld => ?_)
      clear HK2
      try simp only [Act.put, List.getElem_toArray, List.getElem_cons_succ, List.getElem_cons_zero, List.setIfInBounds_toArray, List.set_cons_zero, List.set_cons_succ]
      clear K
      refine wpAnyH_take (i := 5) (v := .bool true) rfl (by kernel_rfl) (by kernel_rfl) (by kernel_rfl) (fun _ _ _ h => h) (Or.inl ⟨by rfl, ?_⟩) (by assumption) ?_
      · intro w' hSw
        first | (go_simp; done) | (go_simp; intro h0; omega) | rfl
      try simp only [Act.put, List.getElem_toArray, List.getElem_cons_succ, List.getElem_cons_zero, List.setIfInBounds_toArray, List.set_cons_zero, List.set_cons_succ]
      refine wpAnyH_take (i := 6) (v := .pointer (some ⟨w.heap.size, 3, none⟩)) rfl (by kernel_rfl) (by kernel_rfl) (by kernel_rfl) (fun _ _ _ h => h) (Or.inl ⟨by rfl, ?_⟩) (by assumption) ?_
      · intro w' hSw
        first | (go_simp; done) | (go_simp; intro h0; omega) | rfl
      try simp only [Act.put, List.getElem_toArray, List.getElem_cons_succ, List.getElem_cons_zero, List.setIfInBounds_toArray, List.set_cons_zero, List.set_cons_succ]
      refine wpAnyH_take (i := 7) (v := .slice p l c) rfl (by kernel_rfl) (by kernel_rfl) (by kernel_rfl) (fun _ _ _ h => h) (Or.inl ⟨by rfl, ?_⟩) (by assumption) ?_
      · intro w' hSw
        obtain ⟨⟨y0, y1, y2, y3⟩, -⟩ := cells4 hSw.1
        first | (go_simp; done) | (go_simp; intro h0; omega) | rfl
      try simp only [Act.put, List.getElem_toArray, List.getElem_cons_succ, List.getElem_cons_zero, List.setIfInBounds_toArray, List.set_cons_zero, List.set_cons_succ]
      refine wpAnyH_ready (rs := [8]) (by kernel_rfl) (by simp) ?_
      refine AllReadyH.cons rfl (fun K hK => ?_) AllReadyH.nil
      have HK2 := Lib.hid hK
      clear hK
      try rw [if_pos (by rfl)]
      go_simp
      refine (HM2.out _ HWv2.out).mono ?_
      rintro en v3 ⟨rfl, hb⟩
      have HXv3 := Lib.hid ((hb.block _ (lt_of_block HXv2.out)).trans HXv2.out)
      have HWv3 := Lib.hid (below_then HWv2.out hb HWv2.out.size)
      clear hb
      refine HK2.out _ _ ⟨HXv3.out, trivial⟩ (fun hHeld => ?_)
      clear HK2
      try simp only [Act.put, List.getElem_toArray, List.getElem_cons_succ, List.getElem_cons_zero, List.setIfInBounds_toArray, List.set_cons_zero, List.set_cons_succ]
      clear K
      refine wpAnyH_take (i := 9) (v := .bool true) rfl (by kernel_rfl) (by kernel_rfl) (by kernel_rfl) (fun _ _ _ h => h) (Or.inl ⟨by rfl, ?_⟩) (by assumption) ?_
      · intro w' hSw
        first | (go_simp; done) | (go_simp; intro h0; omega) | rfl
      try simp only [Act.put, List.getElem_toArray, List.getElem_cons_succ, List.getElem_cons_zero, List.setIfInBounds_toArray, List.set_cons_zero, List.set_cons_succ]
      refine wpAnyH_take (i := 10) (v := .bool true) rfl (by kernel_rfl) (by kernel_rfl) (by kernel_rfl) (fun _ _ _ h => h) (Or.inl ⟨by rfl, ?_⟩) (by assumption) ?_
      · intro w' hSw
        first | (go_simp; done) | (go_simp; intro h0; omega) | rfl
      try simp only [Act.put, List.getElem_toArray, List.getElem_cons_succ, List.getElem_cons_zero, List.setIfInBounds_toArray, List.set_cons_zero, List.set_cons_succ]
      refine wpAnyH_take (i := 11) (v := .agg #[.int .u8 k, .int .i64 v, .slice pe ne ce, .slice p l c]) rfl (by kernel_rfl) (by kernel_rfl) (by kernel_rfl) (fun _ _ _ h => h) (Or.inl ⟨by rfl, ?_⟩) (by assumption) ?_
      · intro w' hSw
        obtain ⟨⟨y0, y1, y2, y3⟩, -⟩ := cells4 hSw.1
        first | (go_simp; done) | (go_simp; intro h0; omega) | rfl
      try simp only [Act.put, List.getElem_toArray, List.getElem_cons_succ, List.getElem_cons_zero, List.setIfInBounds_toArray, List.set_cons_zero, List.set_cons_succ]
      refine wpAnyH_take (i := 14) (v := .pointer (some ⟨w.heap.size, 3, none⟩)) rfl (by kernel_rfl) (by kernel_rfl) (by kernel_rfl) (fun _ _ _ h => h) (Or.inl ⟨by rfl, ?_⟩) (by assumption) ?_
      · intro w' hSw
        first | (go_simp; done) | (go_simp; intro h0; omega) | rfl
      try simp only [Act.put, List.getElem_toArray, List.getElem_cons_succ, List.getElem_cons_zero, List.setIfInBounds_toArray, List.set_cons_zero, List.set_cons_succ]
      refine wpAnyH_take (i := 15) (v := .slice p l c) rfl (by kernel_rfl) (by kernel_rfl) (by kernel_rfl) (fun _ _ _ h => h) (Or.inl ⟨by rfl, ?_⟩) (by assumption) ?_
      · intro w' hSw
        obtain ⟨⟨y0, y1, y2, y3⟩, -⟩ := cells4 hSw.1
        first | (go_simp; done) | (go_simp; intro h0; omega) | rfl
      try simp only [Act.put, List.getElem_toArray, List.getElem_cons_succ, List.getElem_cons_zero, List.setIfInBounds_toArray, List.set_cons_zero, List.set_cons_succ]
      have HXs12 := Lib.hid (((box_new (w := v3) (.cells #[.int .u8 k, .int .i64 v, .slice pe ne ce, .slice p l c] 25)).block _ (lt_of_block HXv3.out)).trans HXv3.out)
      refine wpAnyH_ready (rs := [12]) (by kernel_rfl) (by simp) ?_
      refine AllReadyH.cons rfl (fun K hK => ?_) AllReadyH.nil
      have HK2 := Lib.hid hK
      clear hK
      try rw [if_pos (by rfl)]
      go_simp
      refine HK2.out _ _ ⟨HXs12.out, trivial⟩ (fun hHeld => ?_)
      clear HK2
      try simp only [Act.put, List.getElem_toArray, List.getElem_cons_succ, List.getElem_cons_zero, List.setIfInBounds_toArray, List.set_cons_zero, List.set_cons_succ]
      clear K
      refine wpAnyH_ready (rs := [13]) (by kernel_rfl) (by simp) ?_
      refine AllReadyH.cons rfl (fun K hK => ?_) AllReadyH.nil
      have HK2 := Lib.hid hK
      clear hK
      try rw [if_pos (by rfl)]
      go_simp
      refine (HS1.out _ HWv3.out).mono ?_
      rintro en v4 ⟨rfl, hb⟩
      have HXv4 := Lib.hid ((hb.block _ (lt_of_block HXv3.out)).trans HXv3.out)
      have HWv4 := Lib.hid (below_then HWv3.out hb HWv3.out.size)
      clear hb
      refine HK2.out _ _ ⟨HXv4.out, trivial⟩ (fun hHeld => ?_)
      clear HK2
      try simp only [Act.put, List.getElem_toArray, List.getElem_cons_succ, List.getElem_cons_zero, List.setIfInBounds_toArray, List.set_cons_zero, List.set_cons_succ]
      clear K
      refine wpAnyH_ready (rs := [16]) (by kernel_rfl) (by simp) ?_
      refine AllReadyH.cons rfl (fun K hK => ?_) AllReadyH.nil
      have HK2 := Lib.hid hK
      clear hK
      try rw [if_pos (by rfl)]
      go_simp
      refine (HS2.out _ HWv4.out).mono ?_
      rintro en v5 ⟨rfl, hb⟩
      have HXv5 := Lib.hid ((hb.block _ (lt_of_block HXv4.out)).trans HXv4.out)
      have HWv5 := Lib.hid (below_then HWv4.out hb HWv4.out.size)
      clear hb
      refine HK2.out _ _ ⟨HXv5.out, trivial⟩ (fun hHeld => ?_)
      clear HK2
      try simp only [Act.put, List.getElem_toArray, List.getElem_cons_succ, List.getElem_cons_zero, List.setIfInBounds_toArray, List.set_cons_zero, List.set_cons_succ]
      clear K
      refine wpAnyH_take (i := 17) (v := .int .i64 (1 + wk)) rfl (by kernel_rfl) (by kernel_rfl) (by kernel_rfl) (fun _ _ _ h => h) (Or.inl ⟨by rfl, ?_⟩) (by assumption) ?_
      · intro w' hSw
        first | (go_simp; done) | (go_simp; intro h0; omega) | rfl
      try simp only [Act.put, List.getElem_toArray, List.getElem_cons_succ, List.getElem_cons_zero, List.setIfInBounds_toArray, List.set_cons_zero, List.set_cons_succ]
      refine wpAnyH_take (i := 18) (v := .bool true) rfl (by kernel_rfl) (by kernel_rfl) (by kernel_rfl) (fun _ _ _ h => h) (Or.inl ⟨by rfl, ?_⟩) (by assumption) ?_
      · intro w' hSw
        first | (go_simp; done) | (go_simp; intro h0; omega) | rfl
      try simp only [Act.put, List.getElem_toArray, List.getElem_cons_succ, List.getElem_cons_zero, List.setIfInBounds_toArray, List.set_cons_zero, List.set_cons_succ]
      refine wpAnyH_take (i := 19) (v := .bool true) rfl (by kernel_rfl) (by kernel_rfl) (by kernel_rfl) (fun _ _ _ h => h) (Or.inl ⟨by rfl, ?_⟩) (by assumption) ?_
      · intro w' hSw
        first | (go_simp; done) | (go_simp; intro h0; omega) | rfl
      try simp only [Act.put, List.getElem_toArray, List.getElem_cons_succ, List.getElem_cons_zero, List.setIfInBounds_toArray, List.set_cons_zero, List.set_cons_succ]
      refine wpAnyH_take (i := 20) (v := .bool true) rfl (by kernel_rfl) (by kernel_rfl) (by kernel_rfl) (fun _ _ _ h => h) (Or.inl ⟨by rfl, ?_⟩) (by assumption) ?_
      · intro w' hSw
        first | (go_simp; done) | (go_simp; intro h0; omega) | rfl
      try simp only [Act.put, List.getElem_toArray, List.getElem_cons_succ, List.getElem_cons_zero, List.setIfInBounds_toArray, List.set_cons_zero, List.set_cons_succ]
      refine wpAnyH_ready (rs := [21]) (by kernel_rfl) (by simp) ?_
      refine AllReadyH.cons rfl (fun K hK => ?_) AllReadyH.nil
      have HK2 := Lib.hid hK
      clear hK
      try rw [if_pos (by rfl)]
      go_simp
      refine (HAW.out _ HWv5.out).mono ?_
      rintro en v6 ⟨rfl, hb⟩
      have HXv6 := Lib.hid ((hb.block _ (lt_of_block HXv5.out)).trans HXv5.out)
      have HWv6 := Lib.hid (below_then HWv5.out hb HWv5.out.size)
      clear hb
      refine HK2.out _ _ ⟨HXv6.out, trivial⟩ (fun hHeld => ?_)
      clear HK2
      try simp only [Act.put, List.getElem_toArray, List.getElem_cons_succ, List.getElem_cons_zero, List.setIfInBounds_toArray, List.set_cons_zero, List.set_cons_succ]
      clear K
      refine wpAnyH_take (i := 22) (v := .bool true) rfl (by kernel_rfl) (by kernel_rfl) (by kernel_rfl) (fun _ _ _ h => h) (Or.inl ⟨by rfl, ?_⟩) (by assumption) ?_
      · intro w' hSw
        first | (go_simp; done) | (go_simp; intro h0; omega) | rfl
      try simp only [Act.put, List.getElem_toArray, List.getElem_cons_succ, List.getElem_cons_zero, List.setIfInBounds_toArray, List.set_cons_zero, List.set_cons_succ]
      refine wpAnyH_take (i := 23) (v := .bool true) rfl (by kernel_rfl) (by kernel_rfl) (by kernel_rfl) (fun _ _ _ h => h) (Or.inl ⟨by rfl, ?_⟩) (by assumption) ?_
      · intro w' hSw
        first | (go_simp; done) | (go_simp; intro h0; omega) | rfl
      try simp only [Act.put, List.getElem_toArray, List.getElem_cons_succ, List.getElem_cons_zero, List.setIfInBounds_toArray, List.set_cons_zero, List.set_cons_succ]
      refine wpAnyH_done (by kernel_rfl) ?_ _
      clear hHeld
      go_wp2_with (fail)
      go_ret
      exact ⟨rfl, HWv6.out⟩
end Rt
end Go.Proofs.YtabegjpledammaaGreatDoor
