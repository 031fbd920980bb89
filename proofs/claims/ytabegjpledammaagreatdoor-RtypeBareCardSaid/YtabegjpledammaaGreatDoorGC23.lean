/-The walk of RtypeBare. (Written by wip/tools/rtbarew.py.) -/
import Derived.Test.YtabegjpledammaaGreatDoorGC17
import Derived.Test.YtabegjpledammaaGreatDoorGC22
import Derived.Test.YtabegjpledammaaGreatDoorGC18
namespace Go.Proofs.YtabegjpledammaaGreatDoor
open Go.RowKit
set_option linter.unusedVariables false
set_option linter.unusedSimpArgs false
namespace Rt
open Effect (At AtOk AtsAt Rd RdI ofA ret_i64 ret_bool lt_of_block heap_alloc_new NumLaid)

set_option maxRecDepth 100000 in
set_option maxHeartbeats 51200000 in
theorem rtypeBare_walk (h : Hd) (pe : Option Addr) (ne ce : Nat) (p : Option Addr) (l c : Nat) (t : RT) (af at_ : Option Addr) (nf cf nt ct : Nat) (f to : List Int) (w : World) (hT : RtIs w h pe ne ce p l c t) (hf : RdI w nf af f) (hto : RdI w nt at_ to) (hnf0 : nf ≤ maxLen) (hnt0 : nt ≤ maxLen) (hl : NumLaid w) :
    Calls Tryz.prog 6 #[.agg #[.int .u8 h.k, .int .i64 h.r, .slice pe ne ce, .slice p l c], .slice af nf cf, .slice at_ nt ct] w fun e w' => e = .returned (.bool true) ∧ Below w.heap.size w w' := by
  have hg1 := fun W (hb : Below w.heap.size w W) => great_walk t h pe ne ce p l c W (hT.below hb)
  have haw := fun W (hb : Below w.heap.size w W) => awake_walk W (hl.below hb)
  have HG1 := Lib.hid hg1; have HAW := Lib.hid haw; have HT := Lib.hid hT; have HF := Lib.hid hf; have HTO := Lib.hid hto
  clear hg1 haw hT hl hf hto
  unfold maxLen at hnf0 hnt0
  obtain ⟨k, v, e⟩ := h
  have HXb := Lib.hid (show (w.alloc (.cells #[.int .u8 k, .int .i64 v, .slice pe ne ce, .slice p l c] 25)).heap[w.heap.size]? = some (.cells #[.int .u8 k, .int .i64 v, .slice pe ne ce, .slice p l c] 25 (0, 0)) from heap_alloc_new w _)
  have HWb := Lib.hid (show Below w.heap.size w (w.alloc (.cells #[.int .u8 k, .int .i64 v, .slice pe ne ce, .slice p l c] 25)) from box_new _)
  by_cases hgt : greatT t = true
  · have HGT := Lib.hid hgt
    clear hgt HT
    go_enter Tryz.func6, Tryz.ntmps6
    go_wp2_with (fail)
    refine (HG1.out _ HWb.out).mono ?_
    rintro en w1 ⟨rfl, hb1⟩
    have HW1 := Lib.hid (below_then HWb.out hb1 HWb.out.size)
    clear hb1
    rw [HGT.out]
    go_wp2_with (fail)
    refine (HAW.out _ HW1.out).mono ?_
    rintro en w2 ⟨rfl, hb2⟩
    have HW2 := Lib.hid (below_then HW1.out hb2 HW1.out.size)
    clear hb2
    go_wp2_with (fail)
    go_ret
    exact ⟨rfl, HW2.out⟩
  rw [Bool.not_eq_true] at hgt
  by_cases hlong : 100 < nf ∨ 100 < nt
  · have HGT := Lib.hid hgt
    have hc : (decide (100 < (nf : Int)) = true) ∨ (decide (100 < (nf : Int)) = false ∧ decide (100 < (nt : Int)) = true) := by
      by_cases h1 : 100 < nf
      · left; exact decide_eq_true (by omega)
      · right; exact ⟨decide_eq_false (by omega), decide_eq_true (by omega)⟩
    clear hgt HT
    rcases hc with b1 | ⟨b1, b2⟩
    all_goals
      go_enter Tryz.func6, Tryz.ntmps6
      go_wp2_with (fail)
      refine (HG1.out _ HWb.out).mono ?_
      rintro en w1 ⟨rfl, hb1⟩
      have HW1 := Lib.hid (below_then HWb.out hb1 HWb.out.size)
      clear hb1 hlong
      rw [HGT.out]
      go_wp2_with (fail)
      refine (HAW.out _ HW1.out).mono ?_
      rintro en w2 ⟨rfl, hb2⟩
      have HW2 := Lib.hid (below_then HW1.out hb2 HW1.out.size)
      clear hb2
      go_wp2_with (fail)
      go_ret
      exact ⟨rfl, HW2.out⟩
  have hnf : nf ≤ 100 := by omega
  have hnt : nt ≤ 100 := by omega
  clear hlong
  have hst := small_eff hgt
  have ht5 := eff_more (m := 100000) (by omega) hst.2
  have hwt := hst.1
  have hm1 := fun W (hb : Below w.heap.size w W) => one_slice HT.out ht5 W hb
  have hs1 := fun W (hb : Below w.heap.size w W) => one_size HT.out (by omega) W hb
  have hk1 := fun W (hb : Below w.heap.size w W) => kids_one (HT.out.below hb) 25 W.heap.size rfl
  have hsk := fun W (N : Nat) (hk : Kids W (some ⟨N, 0, none⟩) [t]) => (show Calls Tryz.prog 12 #[.slice (some ⟨N, 0, none⟩) 1 1] W (fun e w' => e = .returned (.int .i64 (wt t : Nat)) ∧ Below W.heap.size W w') from by
    have := size_walk [t] (some ⟨N, 0, none⟩) 1 1 W rfl one_le hk (by rw [wts_cons, wts_nil]; omega)
    rw [show wts [t] = wt t from by rw [wts_cons, wts_nil]; omega] at this
    exact this)
  have hb1 := fun W (hb : Below w.heap.size w W) => bare_walk (wt t) t ⟨k, v, e⟩ pe ne ce p l c W (Nat.le_refl _) (by omega) (HT.out.below hb)
  have hbsz : Types.wt (.node ⟨k, 0⟩ (bareK t.ks)) = wt t := by
    have := bare_size t
    rw [bareT_eq, HT.out.head] at this
    exact this
  have hrs := fun (W : World) (q : Option Addr) (c : Nat) (h1 : Types.TyIs W ⟨k, 0⟩ q (bareK t.ks).length c (.node ⟨k, 0⟩ (bareK t.ks))) => Types.refSize_walk _ _ _ _ _ c W (Nat.le_refl _) (by rw [hbsz]; omega) h1
  rw [hbsz] at hrs
  have hrm := fun (W : World) (q : Option Addr) (c : Nat) (h1 : Types.TyIs W ⟨k, 0⟩ q (bareK t.ks).length c (.node ⟨k, 0⟩ (bareK t.ks))) => Types.refMay_walk _ _ _ _ _ c W (Nat.le_refl _) h1
  have hrmt : mayT t = true → Types.mayT (.node ⟨k, 0⟩ (bareK t.ks)) = true := fun hm => by
    have := (bare_may _).1 t (Nat.le_refl _) hm
    rw [bareT_eq, HT.out.head] at this
    exact this
  have hsw := fun W (hb : Below w.heap.size w W) => swap_walk f to (wt t) t ⟨k, v, e⟩ pe ne ce p l c nf cf nt ct af at_ W (Nat.le_refl _) (by omega) (HT.out.below hb) (eff_more (by omega) hst.2) (HF.out.below hb) (HTO.out.below hb) (by omega) (by omega)
  obtain ⟨hd, hhd⟩ : ∃ hd, swapH f to ⟨k, v, e⟩ = hd := ⟨_, rfl⟩
  rw [hhd] at hsw
  have hb2 := fun (W : World) (qe : Option Addr) (ce : Nat) (q : Option Addr) (c : Nat) (h1 : RtIs W hd qe hd.e.length ce q l c (swapT f to t)) => bare_walk (wt (swapT f to t)) (swapT f to t) hd qe hd.e.length ce q l c W (Nat.le_refl _) (by rw [(swap_wt f to _).1 t (Nat.le_refl _)]; omega) h1
  have hsame : (.node ⟨hd.k, 0⟩ (bareK (swapT f to t).ks) : Types.Ty) = .node ⟨k, 0⟩ (bareK t.ks) := by
    have h1 := (swap_bare f to _).1 t (Nat.le_refl _)
    rw [bareT_eq, bareT_eq t, HT.out.head] at h1
    have h2 : (swapT f to t).h = hd := by rw [swapT_eq, HT.out.head]; exact hhd
    rw [h2] at h1
    exact h1
  have hsm := fun (W : World) (q q' : Option Addr) (c c' : Nat) (h1 : Types.TyIs W ⟨hd.k, 0⟩ q (bareK (swapT f to t).ks).length c (.node ⟨hd.k, 0⟩ (bareK (swapT f to t).ks))) (h2 : Types.TyIs W ⟨k, 0⟩ q' (bareK t.ks).length c' (.node ⟨k, 0⟩ (bareK t.ks))) => Types.refSame_walk _ _ _ ⟨hd.k, 0⟩ ⟨k, 0⟩ q q' _ c _ c' W (Nat.le_refl _) h1 h2
  rw [show Types.sameT (.node ⟨hd.k, 0⟩ (bareK (swapT f to t).ks)) (.node ⟨k, 0⟩ (bareK t.ks)) = true from by rw [hsame]; exact Types.same_self _] at hsm
  simp only at hm1 hs1 hrs hrm hsm hsw hk1
  have HM1 := Lib.hid hm1; have HS1 := Lib.hid hs1; have HK1 := Lib.hid hk1; have HSK := Lib.hid hsk; have HB1 := Lib.hid hb1; have HRS := Lib.hid hrs; have HRM := Lib.hid hrm; have HRT := Lib.hid hrmt; have HSW := Lib.hid hsw; have HB2 := Lib.hid hb2; have HSM := Lib.hid hsm; have HGT := Lib.hid hgt
  clear hst ht5 hwt hm1 hs1 hk1 hsk hb1 hbsz hrs hrm hrmt hsw hhd hb2 hsame hsm hgt HT HF HTO
  have b1 : decide (100 < (nf : Int)) = false := decide_eq_false (by omega)
  have b2 : decide (100 < (nt : Int)) = false := decide_eq_false (by omega)
  cases hmt : mayT t
  · rw [hmt] at HM1
    clear hmt HRT
    go_enter Tryz.func6, Tryz.ntmps6
    go_wp2_with (fail)
    refine (HG1.out _ HWb.out).mono ?_
    rintro en w1 ⟨rfl, hb⟩
    have HXw1 := Lib.hid ((hb.block _ (lt_of_block HXb.out)).trans HXb.out)
    have HWw1 := Lib.hid (below_then HWb.out hb HWb.out.size)
    clear hb
    obtain ⟨⟨c0, c1, c2, c3⟩, -⟩ := cells4 HXw1.out
    rw [HGT.out]
    go_wp2_with (fail)
    refine (HB1.out _ HWw1.out).mono ?_
    rintro en w2 ⟨q1, d1, rfl, hT1, hb⟩
    have HXw2 := Lib.hid ((hb.block _ (lt_of_block HXw1.out)).trans HXw1.out)
    have HWw2 := Lib.hid (below_then HWw1.out hb HWw1.out.size)
    have HTy := Lib.hid (bare_ty hT1)
    clear hb hT1 c0 c1 c2 c3
    generalize hbl : (bareK t.ks).length = bl at *
    clear hbl
    have HXw3 := Lib.hid (((box_new (w := w2) (.cells #[.int .u8 k, .int .i64 0, .slice q1 bl d1] 37)).block _ (lt_of_block HXw2.out)).trans HXw2.out)
    have HWw3 := Lib.hid (below_then HWw2.out (box_new (w := w2) (.cells #[.int .u8 k, .int .i64 0, .slice q1 bl d1] 37)) HWw2.out.size)
    have HTw3 := Lib.hid (HTy.out.below (box_new (w := w2) (.cells #[.int .u8 k, .int .i64 0, .slice q1 bl d1] 37)))
    have HDw3 := Lib.hid (heap_alloc_new w2 (.cells #[.int .u8 k, .int .i64 0, .slice q1 bl d1] 37))
    clear HTy
    go_upto_region 4 with (fail)
    generalize hw3 : w2.alloc (.cells #[.int .u8 k, .int .i64 0, .slice q1 bl d1] 37) = w3 at *
    generalize hD : w2.heap.size = D at *
    clear hw3 hD
    have HXv0 := Lib.hid (show w3.drew.heap[w.heap.size]? = some (.cells #[.int .u8 k, .int .i64 v, .slice pe ne ce, .slice p l c] 25 (0, 0)) from HXw3.out)
    have HDv0 := Lib.hid (show w3.drew.heap[D]? = some (.cells #[.int .u8 k, .int .i64 0, .slice q1 bl d1] 37 (0, 0)) from HDw3.out)
    have HWv0 := Lib.hid (HWw3.out.drew)
    have HTv0 := Lib.hid (HTw3.out.below (Below.refl _ _).drew)
    refine wp_region_held_drew (S := fun (V : World) => V.heap[w.heap.size]? = some (.cells #[.int .u8 k, .int .i64 v, .slice pe ne ce, .slice p l c] 25 (0, 0)) ∧ V.heap[D]? = some (.cells #[.int .u8 k, .int .i64 0, .slice q1 bl d1] 37 (0, 0))) (by kernel_rfl) ⟨HXw3.out, HDw3.out⟩ (fun hHeld => ?_)
    generalize w3.drew = v0 at *
    refine wpAnyH_take (i := 0) (v := .agg #[.int .u8 k, .int .i64 0, .slice q1 bl d1]) rfl (by kernel_rfl) (by kernel_rfl) (by kernel_rfl) (fun _ _ _ h => h) (Or.inl ⟨by rfl, ?_⟩) (by assumption) ?_
    · intro w' hSw
      obtain ⟨⟨x0, x1, x2⟩, -⟩ := Types.cells3 hSw.2
      first | (go_simp; done) | (go_simp; intro h0; omega) | rfl
    try simp only [Act.put, List.getElem_toArray, List.getElem_cons_succ, List.getElem_cons_zero, List.setIfInBounds_toArray, List.set_cons_zero, List.set_cons_succ]
    refine wpAnyH_take (i := 2) (v := .agg #[.int .u8 k, .int .i64 v, .slice pe ne ce, .slice p l c]) rfl (by kernel_rfl) (by kernel_rfl) (by kernel_rfl) (fun _ _ _ h => h) (Or.inl ⟨by rfl, ?_⟩) (by assumption) ?_
    · intro w' hSw
      obtain ⟨⟨y0, y1, y2, y3⟩, -⟩ := cells4 hSw.1
      first | (go_simp; done) | (go_simp; intro h0; omega) | rfl
    try simp only [Act.put, List.getElem_toArray, List.getElem_cons_succ, List.getElem_cons_zero, List.setIfInBounds_toArray, List.set_cons_zero, List.set_cons_succ]
    refine wpAnyH_ready (rs := [1, 3]) (by kernel_rfl) (by simp) ?_
    refine AllReadyH.cons rfl (fun K hK => ?_) (AllReadyH.cons rfl (fun K hK => ?_) AllReadyH.nil)
    · have HK2 := Lib.hid hK
      clear hK
      try rw [if_pos (by rfl)]
      go_simp
      refine (HRS.out _ _ _ HTv0.out).mono ?_
      rintro en v1 ⟨rfl, hb⟩
      have HXv1 := Lib.hid ((hb.block _ (lt_of_block HXv0.out)).trans HXv0.out)
      have HDv1 := Lib.hid ((hb.block _ (lt_of_block HDv0.out)).trans HDv0.out)
      have HWv1 := Lib.hid (below_then HWv0.out hb HWv0.out.size)
      have HTv1 := Lib.hid (HTv0.out.below hb)
      clear hb
      refine HK2.out _ _ ⟨HXv1.out, HDv1.out⟩ (fun hHeld => ?_)
      clear HK2
      try simp only [Act.put, List.getElem_toArray, List.getElem_cons_succ, List.getElem_cons_zero, List.setIfInBounds_toArray, List.set_cons_zero, List.set_cons_succ]
      clear K
      refine wpAnyH_ready (rs := [3]) (by kernel_rfl) (by simp) ?_
      refine AllReadyH.cons rfl (fun K hK => ?_) AllReadyH.nil
      have HK2 := Lib.hid hK
      clear hK
      try rw [if_pos (by rfl)]
      go_simp
      have HS3 := Lib.hid (And.intro (((box_new (w := v1) (.cells #[.int .u8 k, .int .i64 v, .slice pe ne ce, .slice p l c] 25)).block _ (lt_of_block HXv1.out)).trans HXv1.out) (((box_new (w := v1) (.cells #[.int .u8 k, .int .i64 v, .slice pe ne ce, .slice p l c] 25)).block _ (lt_of_block HDv1.out)).trans HDv1.out))
      refine HK2.out _ _ ⟨HS3.out.1, HS3.out.2⟩ (fun hHeld => ?_)
      clear HK2
      try simp only [Act.put, List.getElem_toArray, List.getElem_cons_succ, List.getElem_cons_zero, List.setIfInBounds_toArray, List.set_cons_zero, List.set_cons_succ]
      clear K
      refine wpAnyH_ready (rs := [4]) (by kernel_rfl) (by simp) ?_
      refine AllReadyH.cons rfl (fun K hK => ?_) AllReadyH.nil
      have HK2 := Lib.hid hK
      clear hK
      try rw [if_pos (by rfl)]
      go_simp
      refine (HS1.out _ HWv1.out).mono ?_
      rintro en v2 ⟨rfl, hb⟩
      have HXv2 := Lib.hid ((hb.block _ (lt_of_block HXv1.out)).trans HXv1.out)
      have HDv2 := Lib.hid ((hb.block _ (lt_of_block HDv1.out)).trans HDv1.out)
      have HWv2 := Lib.hid (below_then HWv1.out hb HWv1.out.size)
      have HTv2 := Lib.hid (HTv1.out.below hb)
      clear hb
      refine HK2.out _ _ ⟨HXv2.out, HDv2.out⟩ (fun hHeld => ?_)
      clear HK2
      try simp only [Act.put, List.getElem_toArray, List.getElem_cons_succ, List.getElem_cons_zero, List.setIfInBounds_toArray, List.set_cons_zero, List.set_cons_succ]
      clear K
      refine wpAnyH_take (i := 5) (v := .bool true) rfl (by kernel_rfl) (by kernel_rfl) (by kernel_rfl) (fun _ _ _ h => h) (Or.inl ⟨by rfl, ?_⟩) (by assumption) ?_
      · intro w' hSw
        first | (go_simp; done) | (go_simp; intro h0; omega) | rfl
      try simp only [Act.put, List.getElem_toArray, List.getElem_cons_succ, List.getElem_cons_zero, List.setIfInBounds_toArray, List.set_cons_zero, List.set_cons_succ]
      refine wpAnyH_take (i := 6) (v := .bool true) rfl (by kernel_rfl) (by kernel_rfl) (by kernel_rfl) (fun _ _ _ h => h) (Or.inl ⟨by rfl, ?_⟩) (by assumption) ?_
      · intro w' hSw
        first | (go_simp; done) | (go_simp; intro h0; omega) | rfl
      try simp only [Act.put, List.getElem_toArray, List.getElem_cons_succ, List.getElem_cons_zero, List.setIfInBounds_toArray, List.set_cons_zero, List.set_cons_succ]
      refine wpAnyH_take (i := 7) (v := .pointer (some ⟨D, 0, none⟩)) rfl (by kernel_rfl) (by kernel_rfl) (by kernel_rfl) (fun _ _ _ h => h) (Or.inl ⟨by rfl, ?_⟩) (by assumption) ?_
      · intro w' hSw
        first | (go_simp; done) | (go_simp; intro h0; omega) | rfl
      try simp only [Act.put, List.getElem_toArray, List.getElem_cons_succ, List.getElem_cons_zero, List.setIfInBounds_toArray, List.set_cons_zero, List.set_cons_succ]
      refine wpAnyH_take (i := 8) (v := .int .u8 k) rfl (by kernel_rfl) (by kernel_rfl) (by kernel_rfl) (fun _ _ _ h => h) (Or.inl ⟨by rfl, ?_⟩) (by assumption) ?_
      · intro w' hSw
        obtain ⟨⟨x0, x1, x2⟩, -⟩ := Types.cells3 hSw.2
        first | (go_simp; done) | (go_simp; intro h0; omega) | rfl
      try simp only [Act.put, List.getElem_toArray, List.getElem_cons_succ, List.getElem_cons_zero, List.setIfInBounds_toArray, List.set_cons_zero, List.set_cons_succ]
      refine wpAnyH_take (i := 9) (v := .pointer (some ⟨w.heap.size, 0, none⟩)) rfl (by kernel_rfl) (by kernel_rfl) (by kernel_rfl) (fun _ _ _ h => h) (Or.inl ⟨by rfl, ?_⟩) (by assumption) ?_
      · intro w' hSw
        first | (go_simp; done) | (go_simp; intro h0; omega) | rfl
      try simp only [Act.put, List.getElem_toArray, List.getElem_cons_succ, List.getElem_cons_zero, List.setIfInBounds_toArray, List.set_cons_zero, List.set_cons_succ]
      refine wpAnyH_take (i := 10) (v := .int .u8 k) rfl (by kernel_rfl) (by kernel_rfl) (by kernel_rfl) (fun _ _ _ h => h) (Or.inl ⟨by rfl, ?_⟩) (by assumption) ?_
      · intro w' hSw
        obtain ⟨⟨y0, y1, y2, y3⟩, -⟩ := cells4 hSw.1
        first | (go_simp; done) | (go_simp; intro h0; omega) | rfl
      try simp only [Act.put, List.getElem_toArray, List.getElem_cons_succ, List.getElem_cons_zero, List.setIfInBounds_toArray, List.set_cons_zero, List.set_cons_succ]
      refine wpAnyH_take (i := 11) (v := .bool true) rfl (by kernel_rfl) (by kernel_rfl) (by kernel_rfl) (fun _ _ _ h => h) (Or.inl ⟨by rfl, ?_⟩) (by assumption) ?_
      · intro w' hSw
        first | (go_simp; done) | (go_simp; intro h0; omega) | rfl
      try simp only [Act.put, List.getElem_toArray, List.getElem_cons_succ, List.getElem_cons_zero, List.setIfInBounds_toArray, List.set_cons_zero, List.set_cons_succ]
      refine wpAnyH_take (i := 12) (v := .bool true) rfl (by kernel_rfl) (by kernel_rfl) (by kernel_rfl) (fun _ _ _ h => h) (Or.inl ⟨by rfl, ?_⟩) (by assumption) ?_
      · intro w' hSw
        first | (go_simp; done) | (go_simp; intro h0; omega) | rfl
      try simp only [Act.put, List.getElem_toArray, List.getElem_cons_succ, List.getElem_cons_zero, List.setIfInBounds_toArray, List.set_cons_zero, List.set_cons_succ]
      refine wpAnyH_take (i := 13) (v := .bool true) rfl (by kernel_rfl) (by kernel_rfl) (by kernel_rfl) (fun _ _ _ h => h) (Or.inl ⟨by rfl, ?_⟩) (by assumption) ?_
      · intro w' hSw
        first | (go_simp; done) | (go_simp; intro h0; omega) | rfl
      try simp only [Act.put, List.getElem_toArray, List.getElem_cons_succ, List.getElem_cons_zero, List.setIfInBounds_toArray, List.set_cons_zero, List.set_cons_succ]
      refine wpAnyH_take (i := 14) (v := .agg #[.int .u8 k, .int .i64 v, .slice pe ne ce, .slice p l c]) rfl (by kernel_rfl) (by kernel_rfl) (by kernel_rfl) (fun _ _ _ h => h) (Or.inl ⟨by rfl, ?_⟩) (by assumption) ?_
      · intro w' hSw
        obtain ⟨⟨y0, y1, y2, y3⟩, -⟩ := cells4 hSw.1
        first | (go_simp; done) | (go_simp; intro h0; omega) | rfl
      try simp only [Act.put, List.getElem_toArray, List.getElem_cons_succ, List.getElem_cons_zero, List.setIfInBounds_toArray, List.set_cons_zero, List.set_cons_succ]
      refine wpAnyH_ready (rs := [15]) (by kernel_rfl) (by simp) ?_
      refine AllReadyH.cons rfl (fun K hK => ?_) AllReadyH.nil
      have HK2 := Lib.hid hK
      clear hK
      try rw [if_pos (by rfl)]
      go_simp
      have HS15 := Lib.hid (And.intro (((box_new (w := v2) (.cells #[.int .u8 k, .int .i64 v, .slice pe ne ce, .slice p l c] 25)).block _ (lt_of_block HXv2.out)).trans HXv2.out) (((box_new (w := v2) (.cells #[.int .u8 k, .int .i64 v, .slice pe ne ce, .slice p l c] 25)).block _ (lt_of_block HDv2.out)).trans HDv2.out))
      refine HK2.out _ _ ⟨HS15.out.1, HS15.out.2⟩ (fun hHeld => ?_)
      clear HK2
      try simp only [Act.put, List.getElem_toArray, List.getElem_cons_succ, List.getElem_cons_zero, List.setIfInBounds_toArray, List.set_cons_zero, List.set_cons_succ]
      clear K
      refine wpAnyH_ready (rs := [16]) (by kernel_rfl) (by simp) ?_
      refine AllReadyH.cons rfl (fun K hK => ?_) AllReadyH.nil
      have HK2 := Lib.hid hK
      clear hK
      try rw [if_pos (by rfl)]
      go_simp
      refine (HM1.out _ HWv2.out).mono ?_
      rintro en v3 ⟨rfl, hb⟩
      have HXv3 := Lib.hid ((hb.block _ (lt_of_block HXv2.out)).trans HXv2.out)
      have HDv3 := Lib.hid ((hb.block _ (lt_of_block HDv2.out)).trans HDv2.out)
      have HWv3 := Lib.hid (below_then HWv2.out hb HWv2.out.size)
      have HTv3 := Lib.hid (HTv2.out.below hb)
      clear hb
      refine HK2.out _ _ ⟨HXv3.out, HDv3.out⟩ (fun hHeld => ?_)
      clear HK2
      try simp only [Act.put, List.getElem_toArray, List.getElem_cons_succ, List.getElem_cons_zero, List.setIfInBounds_toArray, List.set_cons_zero, List.set_cons_succ]
      clear K
      refine wpAnyH_take (i := 17) (v := .bool true) rfl (by kernel_rfl) (by kernel_rfl) (by kernel_rfl) (fun _ _ _ h => h) (Or.inl ⟨by rfl, ?_⟩) (by assumption) ?_
      · intro w' hSw
        first | (go_simp; done) | (go_simp; intro h0; omega) | rfl
      try simp only [Act.put, List.getElem_toArray, List.getElem_cons_succ, List.getElem_cons_zero, List.setIfInBounds_toArray, List.set_cons_zero, List.set_cons_succ]
      refine wpAnyH_take (i := 18) (v := .bool true) rfl (by kernel_rfl) (by kernel_rfl) (by kernel_rfl) (fun _ _ _ h => h) (Or.inl ⟨by rfl, ?_⟩) (by assumption) ?_
      · intro w' hSw
        first | (go_simp; done) | (go_simp; intro h0; omega) | rfl
      try simp only [Act.put, List.getElem_toArray, List.getElem_cons_succ, List.getElem_cons_zero, List.setIfInBounds_toArray, List.set_cons_zero, List.set_cons_succ]
      refine wpAnyH_take (i := 19) (v := undef) rfl (by kernel_rfl) (by kernel_rfl) (by kernel_rfl) (fun _ _ _ h => h) (Or.inr ⟨by rfl, rfl⟩) (by assumption) ?_
      try simp only [Act.put, List.getElem_toArray, List.getElem_cons_succ, List.getElem_cons_zero, List.setIfInBounds_toArray, List.set_cons_zero, List.set_cons_succ]
      refine wpAnyH_take (i := 20) (v := undef) rfl (by kernel_rfl) (by kernel_rfl) (by kernel_rfl) (fun _ _ _ h => h) (Or.inr ⟨by rfl, rfl⟩) (by assumption) ?_
      try simp only [Act.put, List.getElem_toArray, List.getElem_cons_succ, List.getElem_cons_zero, List.setIfInBounds_toArray, List.set_cons_zero, List.set_cons_succ]
      refine wpAnyH_take (i := 21) (v := .bool true) rfl (by kernel_rfl) (by kernel_rfl) (by kernel_rfl) (fun _ _ _ h => h) (Or.inl ⟨by rfl, ?_⟩) (by assumption) ?_
      · intro w' hSw
        first | (go_simp; done) | (go_simp; intro h0; omega) | rfl
      try simp only [Act.put, List.getElem_toArray, List.getElem_cons_succ, List.getElem_cons_zero, List.setIfInBounds_toArray, List.set_cons_zero, List.set_cons_succ]
      refine wpAnyH_take (i := 22) (v := .bool true) rfl (by kernel_rfl) (by kernel_rfl) (by kernel_rfl) (fun _ _ _ h => h) (Or.inl ⟨by rfl, ?_⟩) (by assumption) ?_
      · intro w' hSw
        first | (go_simp; done) | (go_simp; intro h0; omega) | rfl
      try simp only [Act.put, List.getElem_toArray, List.getElem_cons_succ, List.getElem_cons_zero, List.setIfInBounds_toArray, List.set_cons_zero, List.set_cons_succ]
      refine wpAnyH_take (i := 23) (v := .bool true) rfl (by kernel_rfl) (by kernel_rfl) (by kernel_rfl) (fun _ _ _ h => h) (Or.inl ⟨by rfl, ?_⟩) (by assumption) ?_
      · intro w' hSw
        first | (go_simp; done) | (go_simp; intro h0; omega) | rfl
      try simp only [Act.put, List.getElem_toArray, List.getElem_cons_succ, List.getElem_cons_zero, List.setIfInBounds_toArray, List.set_cons_zero, List.set_cons_succ]
      refine wpAnyH_take (i := 24) (v := .agg #[.int .u8 k, .int .i64 v, .slice pe ne ce, .slice p l c]) rfl (by kernel_rfl) (by kernel_rfl) (by kernel_rfl) (fun _ _ _ h => h) (Or.inl ⟨by rfl, ?_⟩) (by assumption) ?_
      · intro w' hSw
        obtain ⟨⟨y0, y1, y2, y3⟩, -⟩ := cells4 hSw.1
        first | (go_simp; done) | (go_simp; intro h0; omega) | rfl
      try simp only [Act.put, List.getElem_toArray, List.getElem_cons_succ, List.getElem_cons_zero, List.setIfInBounds_toArray, List.set_cons_zero, List.set_cons_succ]
      refine wpAnyH_take (i := 25) (v := .slice af nf cf) rfl (by kernel_rfl) (by kernel_rfl) (by kernel_rfl) (fun _ _ _ h => h) (Or.inl ⟨by rfl, ?_⟩) (by assumption) ?_
      · intro w' hSw
        first | (go_simp; done) | (go_simp; intro h0; omega) | rfl
      try simp only [Act.put, List.getElem_toArray, List.getElem_cons_succ, List.getElem_cons_zero, List.setIfInBounds_toArray, List.set_cons_zero, List.set_cons_succ]
      refine wpAnyH_take (i := 26) (v := .slice at_ nt ct) rfl (by kernel_rfl) (by kernel_rfl) (by kernel_rfl) (fun _ _ _ h => h) (Or.inl ⟨by rfl, ?_⟩) (by assumption) ?_
      · intro w' hSw
        first | (go_simp; done) | (go_simp; intro h0; omega) | rfl
      try simp only [Act.put, List.getElem_toArray, List.getElem_cons_succ, List.getElem_cons_zero, List.setIfInBounds_toArray, List.set_cons_zero, List.set_cons_succ]
      refine wpAnyH_take (i := 29) (v := .agg #[.int .u8 k, .int .i64 0, .slice q1 bl d1]) rfl (by kernel_rfl) (by kernel_rfl) (by kernel_rfl) (fun _ _ _ h => h) (Or.inl ⟨by rfl, ?_⟩) (by assumption) ?_
      · intro w' hSw
        obtain ⟨⟨x0, x1, x2⟩, -⟩ := Types.cells3 hSw.2
        first | (go_simp; done) | (go_simp; intro h0; omega) | rfl
      try simp only [Act.put, List.getElem_toArray, List.getElem_cons_succ, List.getElem_cons_zero, List.setIfInBounds_toArray, List.set_cons_zero, List.set_cons_succ]
      refine wpAnyH_ready (rs := [27]) (by kernel_rfl) (by simp) ?_
      refine AllReadyH.cons rfl (fun K hK => ?_) AllReadyH.nil
      have HK2 := Lib.hid hK
      clear hK
      try rw [if_pos (by rfl)]
      go_simp
      refine (HSW.out _ HWv3.out).mono ?_
      rintro en v4 ⟨qe2, ce2, q2, c2, rfl, hT2, hb⟩
      have HXv4 := Lib.hid ((hb.block _ (lt_of_block HXv3.out)).trans HXv3.out)
      have HDv4 := Lib.hid ((hb.block _ (lt_of_block HDv3.out)).trans HDv3.out)
      have HWv4 := Lib.hid (below_then HWv3.out hb HWv3.out.size)
      have HTv4 := Lib.hid (HTv3.out.below hb)
      have HT2 := Lib.hid (hT2.reads' (Types.veil_reads _ _))
      clear hT2
      clear hb
      refine HK2.out _ _ ⟨HXv4.out, HDv4.out⟩ (fun hHeld => ?_)
      clear HK2
      try simp only [Act.put, List.getElem_toArray, List.getElem_cons_succ, List.getElem_cons_zero, List.setIfInBounds_toArray, List.set_cons_zero, List.set_cons_succ]
      clear K
      refine wpAnyH_ready (rs := [28]) (by kernel_rfl) (by simp) ?_
      refine AllReadyH.cons rfl (fun K hK => ?_) AllReadyH.nil
      have HK2 := Lib.hid hK
      clear hK
      try rw [if_pos (by rfl)]
      go_simp
      refine (HB2.out _ _ _ _ _ HT2.out).mono ?_
      rintro en v5 ⟨q3, d3, rfl, hT3, hb⟩
      have HXv5 := Lib.hid ((hb.block _ (lt_of_block HXv4.out)).trans HXv4.out)
      have HDv5 := Lib.hid ((hb.block _ (lt_of_block HDv4.out)).trans HDv4.out)
      have HWv5 := Lib.hid (below_then HWv4.out hb HWv4.out.size)
      have HTv5 := Lib.hid (HTv4.out.below hb)
      have HT3 := Lib.hid (bare_ty hT3)
      clear hT3
      clear hb
      refine HK2.out _ _ ⟨HXv5.out, HDv5.out⟩ (fun hHeld => ?_)
      clear HK2
      try simp only [Act.put, List.getElem_toArray, List.getElem_cons_succ, List.getElem_cons_zero, List.setIfInBounds_toArray, List.set_cons_zero, List.set_cons_succ]
      clear K
      refine wpAnyH_ready (rs := [30]) (by kernel_rfl) (by simp) ?_
      refine AllReadyH.cons rfl (fun K hK => ?_) AllReadyH.nil
      have HK2 := Lib.hid hK
      clear hK
      try rw [if_pos (by rfl)]
      go_simp
      refine (HSM.out _ _ _ _ _ HT3.out HTv5.out).mono ?_
      rintro en v6 ⟨rfl, hb⟩
      have HXv6 := Lib.hid ((hb.block _ (lt_of_block HXv5.out)).trans HXv5.out)
      have HDv6 := Lib.hid ((hb.block _ (lt_of_block HDv5.out)).trans HDv5.out)
      have HWv6 := Lib.hid (below_then HWv5.out hb HWv5.out.size)
      have HTv6 := Lib.hid (HTv5.out.below hb)
      clear hb
      refine HK2.out _ _ ⟨HXv6.out, HDv6.out⟩ (fun hHeld => ?_)
      clear HK2
      try simp only [Act.put, List.getElem_toArray, List.getElem_cons_succ, List.getElem_cons_zero, List.setIfInBounds_toArray, List.set_cons_zero, List.set_cons_succ]
      clear K
      refine wpAnyH_take (i := 31) (v := .bool true) rfl (by kernel_rfl) (by kernel_rfl) (by kernel_rfl) (fun _ _ _ h => h) (Or.inl ⟨by rfl, ?_⟩) (by assumption) ?_
      · intro w' hSw
        first | (go_simp; done) | (go_simp; intro h0; omega) | rfl
      try simp only [Act.put, List.getElem_toArray, List.getElem_cons_succ, List.getElem_cons_zero, List.setIfInBounds_toArray, List.set_cons_zero, List.set_cons_succ]
      refine wpAnyH_take (i := 32) (v := .bool true) rfl (by kernel_rfl) (by kernel_rfl) (by kernel_rfl) (fun _ _ _ h => h) (Or.inl ⟨by rfl, ?_⟩) (by assumption) ?_
      · intro w' hSw
        first | (go_simp; done) | (go_simp; intro h0; omega) | rfl
      try simp only [Act.put, List.getElem_toArray, List.getElem_cons_succ, List.getElem_cons_zero, List.setIfInBounds_toArray, List.set_cons_zero, List.set_cons_succ]
      refine wpAnyH_ready (rs := [33]) (by kernel_rfl) (by simp) ?_
      refine AllReadyH.cons rfl (fun K hK => ?_) AllReadyH.nil
      have HK2 := Lib.hid hK
      clear hK
      try rw [if_pos (by rfl)]
      go_simp
      refine (HAW.out _ HWv6.out).mono ?_
      rintro en v7 ⟨rfl, hb⟩
      have HXv7 := Lib.hid ((hb.block _ (lt_of_block HXv6.out)).trans HXv6.out)
      have HDv7 := Lib.hid ((hb.block _ (lt_of_block HDv6.out)).trans HDv6.out)
      have HWv7 := Lib.hid (below_then HWv6.out hb HWv6.out.size)
      have HTv7 := Lib.hid (HTv6.out.below hb)
      clear hb
      refine HK2.out _ _ ⟨HXv7.out, HDv7.out⟩ (fun hHeld => ?_)
      clear HK2
      try simp only [Act.put, List.getElem_toArray, List.getElem_cons_succ, List.getElem_cons_zero, List.setIfInBounds_toArray, List.set_cons_zero, List.set_cons_succ]
      clear K
      refine wpAnyH_take (i := 34) (v := .bool true) rfl (by kernel_rfl) (by kernel_rfl) (by kernel_rfl) (fun _ _ _ h => h) (Or.inl ⟨by rfl, ?_⟩) (by assumption) ?_
      · intro w' hSw
        first | (go_simp; done) | (go_simp; intro h0; omega) | rfl
      try simp only [Act.put, List.getElem_toArray, List.getElem_cons_succ, List.getElem_cons_zero, List.setIfInBounds_toArray, List.set_cons_zero, List.set_cons_succ]
      refine wpAnyH_take (i := 35) (v := .bool true) rfl (by kernel_rfl) (by kernel_rfl) (by kernel_rfl) (fun _ _ _ h => h) (Or.inl ⟨by rfl, ?_⟩) (by assumption) ?_
      · intro w' hSw
        first | (go_simp; done) | (go_simp; intro h0; omega) | rfl
      try simp only [Act.put, List.getElem_toArray, List.getElem_cons_succ, List.getElem_cons_zero, List.setIfInBounds_toArray, List.set_cons_zero, List.set_cons_succ]
      refine wpAnyH_done (by kernel_rfl) ?_ _
      clear hHeld
      go_wp2_with (fail)
      go_ret
      exact ⟨rfl, HWv7.out⟩
    · have HK2 := Lib.hid hK
      clear hK
      try rw [if_pos (by rfl)]
      go_simp
      have hs3 := box_new (w := v0) (.cells #[.int .u8 k, .int .i64 v, .slice pe ne ce, .slice p l c] 25)
      have HXv1 := Lib.hid ((hs3.block _ (lt_of_block HXv0.out)).trans HXv0.out)
      have HDv1 := Lib.hid ((hs3.block _ (lt_of_block HDv0.out)).trans HDv0.out)
      have HWv1 := Lib.hid (below_then HWv0.out hs3 HWv0.out.size)
      have HTv1 := Lib.hid (HTv0.out.below hs3)
      have HKv1 := Lib.hid (HK1.out v0 HWv0.out)
      clear hs3
      refine HK2.out _ _ ⟨HXv1.out, HDv1.out⟩ (fun hHeld => ?_)
      clear HK2
      try simp only [Act.put, List.getElem_toArray, List.getElem_cons_succ, List.getElem_cons_zero, List.setIfInBounds_toArray, List.set_cons_zero, List.set_cons_succ]
      clear K
      generalize hN3 : v0.heap.size = N3 at *
      generalize v0.alloc (.cells #[.int .u8 k, .int .i64 v, .slice pe ne ce, .slice p l c] 25) = v1 at *
      clear hN3
      refine wpAnyH_ready (rs := [1]) (by kernel_rfl) (by simp) ?_
      refine AllReadyH.cons rfl (fun K hK => ?_) AllReadyH.nil
      have HK2 := Lib.hid hK
      clear hK
      try rw [if_pos (by rfl)]
      go_simp
      refine (HRS.out _ _ _ HTv1.out).mono ?_
      rintro en v2 ⟨rfl, hb⟩
      have HXv2 := Lib.hid ((hb.block _ (lt_of_block HXv1.out)).trans HXv1.out)
      have HDv2 := Lib.hid ((hb.block _ (lt_of_block HDv1.out)).trans HDv1.out)
      have HWv2 := Lib.hid (below_then HWv1.out hb HWv1.out.size)
      have HTv2 := Lib.hid (HTv1.out.below hb)
      have HKv2 := Lib.hid (HKv1.out.stay hb)
      clear hb
      refine HK2.out _ _ ⟨HXv2.out, HDv2.out⟩ (fun hHeld => ?_)
      clear HK2
      try simp only [Act.put, List.getElem_toArray, List.getElem_cons_succ, List.getElem_cons_zero, List.setIfInBounds_toArray, List.set_cons_zero, List.set_cons_succ]
      clear K
      refine wpAnyH_ready (rs := [4]) (by kernel_rfl) (by simp) ?_
      refine AllReadyH.cons rfl (fun K hK => ?_) AllReadyH.nil
      have HK2 := Lib.hid hK
      clear hK
      try rw [if_pos (by rfl)]
      go_simp
      refine (HSK.out _ _ HKv2.out).mono ?_
      rintro en v3 ⟨rfl, hb⟩
      have HXv3 := Lib.hid ((hb.block _ (lt_of_block HXv2.out)).trans HXv2.out)
      have HDv3 := Lib.hid ((hb.block _ (lt_of_block HDv2.out)).trans HDv2.out)
      have HWv3 := Lib.hid (below_then HWv2.out hb HWv2.out.size)
      have HTv3 := Lib.hid (HTv2.out.below hb)
      clear hb
      refine HK2.out _ _ ⟨HXv3.out, HDv3.out⟩ (fun hHeld => ?_)
      clear HK2
      try simp only [Act.put, List.getElem_toArray, List.getElem_cons_succ, List.getElem_cons_zero, List.setIfInBounds_toArray, List.set_cons_zero, List.set_cons_succ]
      clear K
      refine wpAnyH_take (i := 5) (v := .bool true) rfl (by kernel_rfl) (by kernel_rfl) (by kernel_rfl) (fun _ _ _ h => h) (Or.inl ⟨by rfl, ?_⟩) (by assumption) ?_
      · intro w' hSw
        first | (go_simp; done) | (go_simp; intro h0; omega) | rfl
      try simp only [Act.put, List.getElem_toArray, List.getElem_cons_succ, List.getElem_cons_zero, List.setIfInBounds_toArray, List.set_cons_zero, List.set_cons_succ]
      refine wpAnyH_take (i := 6) (v := .bool true) rfl (by kernel_rfl) (by kernel_rfl) (by kernel_rfl) (fun _ _ _ h => h) (Or.inl ⟨by rfl, ?_⟩) (by assumption) ?_
      · intro w' hSw
        first | (go_simp; done) | (go_simp; intro h0; omega) | rfl
      try simp only [Act.put, List.getElem_toArray, List.getElem_cons_succ, List.getElem_cons_zero, List.setIfInBounds_toArray, List.set_cons_zero, List.set_cons_succ]
      refine wpAnyH_take (i := 7) (v := .pointer (some ⟨D, 0, none⟩)) rfl (by kernel_rfl) (by kernel_rfl) (by kernel_rfl) (fun _ _ _ h => h) (Or.inl ⟨by rfl, ?_⟩) (by assumption) ?_
      · intro w' hSw
        first | (go_simp; done) | (go_simp; intro h0; omega) | rfl
      try simp only [Act.put, List.getElem_toArray, List.getElem_cons_succ, List.getElem_cons_zero, List.setIfInBounds_toArray, List.set_cons_zero, List.set_cons_succ]
      refine wpAnyH_take (i := 8) (v := .int .u8 k) rfl (by kernel_rfl) (by kernel_rfl) (by kernel_rfl) (fun _ _ _ h => h) (Or.inl ⟨by rfl, ?_⟩) (by assumption) ?_
      · intro w' hSw
        obtain ⟨⟨x0, x1, x2⟩, -⟩ := Types.cells3 hSw.2
        first | (go_simp; done) | (go_simp; intro h0; omega) | rfl
      try simp only [Act.put, List.getElem_toArray, List.getElem_cons_succ, List.getElem_cons_zero, List.setIfInBounds_toArray, List.set_cons_zero, List.set_cons_succ]
      refine wpAnyH_take (i := 9) (v := .pointer (some ⟨w.heap.size, 0, none⟩)) rfl (by kernel_rfl) (by kernel_rfl) (by kernel_rfl) (fun _ _ _ h => h) (Or.inl ⟨by rfl, ?_⟩) (by assumption) ?_
      · intro w' hSw
        first | (go_simp; done) | (go_simp; intro h0; omega) | rfl
      try simp only [Act.put, List.getElem_toArray, List.getElem_cons_succ, List.getElem_cons_zero, List.setIfInBounds_toArray, List.set_cons_zero, List.set_cons_succ]
      refine wpAnyH_take (i := 10) (v := .int .u8 k) rfl (by kernel_rfl) (by kernel_rfl) (by kernel_rfl) (fun _ _ _ h => h) (Or.inl ⟨by rfl, ?_⟩) (by assumption) ?_
      · intro w' hSw
        obtain ⟨⟨y0, y1, y2, y3⟩, -⟩ := cells4 hSw.1
        first | (go_simp; done) | (go_simp; intro h0; omega) | rfl
      try simp only [Act.put, List.getElem_toArray, List.getElem_cons_succ, List.getElem_cons_zero, List.setIfInBounds_toArray, List.set_cons_zero, List.set_cons_succ]
      refine wpAnyH_take (i := 11) (v := .bool true) rfl (by kernel_rfl) (by kernel_rfl) (by kernel_rfl) (fun _ _ _ h => h) (Or.inl ⟨by rfl, ?_⟩) (by assumption) ?_
      · intro w' hSw
        first | (go_simp; done) | (go_simp; intro h0; omega) | rfl
      try simp only [Act.put, List.getElem_toArray, List.getElem_cons_succ, List.getElem_cons_zero, List.setIfInBounds_toArray, List.set_cons_zero, List.set_cons_succ]
      refine wpAnyH_take (i := 12) (v := .bool true) rfl (by kernel_rfl) (by kernel_rfl) (by kernel_rfl) (fun _ _ _ h => h) (Or.inl ⟨by rfl, ?_⟩) (by assumption) ?_
      · intro w' hSw
        first | (go_simp; done) | (go_simp; intro h0; omega) | rfl
      try simp only [Act.put, List.getElem_toArray, List.getElem_cons_succ, List.getElem_cons_zero, List.setIfInBounds_toArray, List.set_cons_zero, List.set_cons_succ]
      refine wpAnyH_take (i := 13) (v := .bool true) rfl (by kernel_rfl) (by kernel_rfl) (by kernel_rfl) (fun _ _ _ h => h) (Or.inl ⟨by rfl, ?_⟩) (by assumption) ?_
      · intro w' hSw
        first | (go_simp; done) | (go_simp; intro h0; omega) | rfl
      try simp only [Act.put, List.getElem_toArray, List.getElem_cons_succ, List.getElem_cons_zero, List.setIfInBounds_toArray, List.set_cons_zero, List.set_cons_succ]
      refine wpAnyH_take (i := 14) (v := .agg #[.int .u8 k, .int .i64 v, .slice pe ne ce, .slice p l c]) rfl (by kernel_rfl) (by kernel_rfl) (by kernel_rfl) (fun _ _ _ h => h) (Or.inl ⟨by rfl, ?_⟩) (by assumption) ?_
      · intro w' hSw
        obtain ⟨⟨y0, y1, y2, y3⟩, -⟩ := cells4 hSw.1
        first | (go_simp; done) | (go_simp; intro h0; omega) | rfl
      try simp only [Act.put, List.getElem_toArray, List.getElem_cons_succ, List.getElem_cons_zero, List.setIfInBounds_toArray, List.set_cons_zero, List.set_cons_succ]
      refine wpAnyH_ready (rs := [15]) (by kernel_rfl) (by simp) ?_
      refine AllReadyH.cons rfl (fun K hK => ?_) AllReadyH.nil
      have HK2 := Lib.hid hK
      clear hK
      try rw [if_pos (by rfl)]
      go_simp
      have HS15 := Lib.hid (And.intro (((box_new (w := v3) (.cells #[.int .u8 k, .int .i64 v, .slice pe ne ce, .slice p l c] 25)).block _ (lt_of_block HXv3.out)).trans HXv3.out) (((box_new (w := v3) (.cells #[.int .u8 k, .int .i64 v, .slice pe ne ce, .slice p l c] 25)).block _ (lt_of_block HDv3.out)).trans HDv3.out))
      refine HK2.out _ _ ⟨HS15.out.1, HS15.out.2⟩ (fun hHeld => ?_)
      clear HK2
      try simp only [Act.put, List.getElem_toArray, List.getElem_cons_succ, List.getElem_cons_zero, List.setIfInBounds_toArray, List.set_cons_zero, List.set_cons_succ]
      clear K
      refine wpAnyH_ready (rs := [16]) (by kernel_rfl) (by simp) ?_
      refine AllReadyH.cons rfl (fun K hK => ?_) AllReadyH.nil
      have HK2 := Lib.hid hK
      clear hK
      try rw [if_pos (by rfl)]
      go_simp
      refine (HM1.out _ HWv3.out).mono ?_
      rintro en v4 ⟨rfl, hb⟩
      have HXv4 := Lib.hid ((hb.block _ (lt_of_block HXv3.out)).trans HXv3.out)
      have HDv4 := Lib.hid ((hb.block _ (lt_of_block HDv3.out)).trans HDv3.out)
      have HWv4 := Lib.hid (below_then HWv3.out hb HWv3.out.size)
      have HTv4 := Lib.hid (HTv3.out.below hb)
      clear hb
      refine HK2.out _ _ ⟨HXv4.out, HDv4.out⟩ (fun hHeld => ?_)
      clear HK2
      try simp only [Act.put, List.getElem_toArray, List.getElem_cons_succ, List.getElem_cons_zero, List.setIfInBounds_toArray, List.set_cons_zero, List.set_cons_succ]
      clear K
      refine wpAnyH_take (i := 17) (v := .bool true) rfl (by kernel_rfl) (by kernel_rfl) (by kernel_rfl) (fun _ _ _ h => h) (Or.inl ⟨by rfl, ?_⟩) (by assumption) ?_
      · intro w' hSw
        first | (go_simp; done) | (go_simp; intro h0; omega) | rfl
      try simp only [Act.put, List.getElem_toArray, List.getElem_cons_succ, List.getElem_cons_zero, List.setIfInBounds_toArray, List.set_cons_zero, List.set_cons_succ]
      refine wpAnyH_take (i := 18) (v := .bool true) rfl (by kernel_rfl) (by kernel_rfl) (by kernel_rfl) (fun _ _ _ h => h) (Or.inl ⟨by rfl, ?_⟩) (by assumption) ?_
      · intro w' hSw
        first | (go_simp; done) | (go_simp; intro h0; omega) | rfl
      try simp only [Act.put, List.getElem_toArray, List.getElem_cons_succ, List.getElem_cons_zero, List.setIfInBounds_toArray, List.set_cons_zero, List.set_cons_succ]
      refine wpAnyH_take (i := 19) (v := undef) rfl (by kernel_rfl) (by kernel_rfl) (by kernel_rfl) (fun _ _ _ h => h) (Or.inr ⟨by rfl, rfl⟩) (by assumption) ?_
      try simp only [Act.put, List.getElem_toArray, List.getElem_cons_succ, List.getElem_cons_zero, List.setIfInBounds_toArray, List.set_cons_zero, List.set_cons_succ]
      refine wpAnyH_take (i := 20) (v := undef) rfl (by kernel_rfl) (by kernel_rfl) (by kernel_rfl) (fun _ _ _ h => h) (Or.inr ⟨by rfl, rfl⟩) (by assumption) ?_
      try simp only [Act.put, List.getElem_toArray, List.getElem_cons_succ, List.getElem_cons_zero, List.setIfInBounds_toArray, List.set_cons_zero, List.set_cons_succ]
      refine wpAnyH_take (i := 21) (v := .bool true) rfl (by kernel_rfl) (by kernel_rfl) (by kernel_rfl) (fun _ _ _ h => h) (Or.inl ⟨by rfl, ?_⟩) (by assumption) ?_
      · intro w' hSw
        first | (go_simp; done) | (go_simp; intro h0; omega) | rfl
      try simp only [Act.put, List.getElem_toArray, List.getElem_cons_succ, List.getElem_cons_zero, List.setIfInBounds_toArray, List.set_cons_zero, List.set_cons_succ]
      refine wpAnyH_take (i := 22) (v := .bool true) rfl (by kernel_rfl) (by kernel_rfl) (by kernel_rfl) (fun _ _ _ h => h) (Or.inl ⟨by rfl, ?_⟩) (by assumption) ?_
      · intro w' hSw
        first | (go_simp; done) | (go_simp; intro h0; omega) | rfl
      try simp only [Act.put, List.getElem_toArray, List.getElem_cons_succ, List.getElem_cons_zero, List.setIfInBounds_toArray, List.set_cons_zero, List.set_cons_succ]
      refine wpAnyH_take (i := 23) (v := .bool true) rfl (by kernel_rfl) (by kernel_rfl) (by kernel_rfl) (fun _ _ _ h => h) (Or.inl ⟨by rfl, ?_⟩) (by assumption) ?_
      · intro w' hSw
        first | (go_simp; done) | (go_simp; intro h0; omega) | rfl
      try simp only [Act.put, List.getElem_toArray, List.getElem_cons_succ, List.getElem_cons_zero, List.setIfInBounds_toArray, List.set_cons_zero, List.set_cons_succ]
      refine wpAnyH_take (i := 24) (v := .agg #[.int .u8 k, .int .i64 v, .slice pe ne ce, .slice p l c]) rfl (by kernel_rfl) (by kernel_rfl) (by kernel_rfl) (fun _ _ _ h => h) (Or.inl ⟨by rfl, ?_⟩) (by assumption) ?_
      · intro w' hSw
        obtain ⟨⟨y0, y1, y2, y3⟩, -⟩ := cells4 hSw.1
        first | (go_simp; done) | (go_simp; intro h0; omega) | rfl
      try simp only [Act.put, List.getElem_toArray, List.getElem_cons_succ, List.getElem_cons_zero, List.setIfInBounds_toArray, List.set_cons_zero, List.set_cons_succ]
      refine wpAnyH_take (i := 25) (v := .slice af nf cf) rfl (by kernel_rfl) (by kernel_rfl) (by kernel_rfl) (fun _ _ _ h => h) (Or.inl ⟨by rfl, ?_⟩) (by assumption) ?_
      · intro w' hSw
        first | (go_simp; done) | (go_simp; intro h0; omega) | rfl
      try simp only [Act.put, List.getElem_toArray, List.getElem_cons_succ, List.getElem_cons_zero, List.setIfInBounds_toArray, List.set_cons_zero, List.set_cons_succ]
      refine wpAnyH_take (i := 26) (v := .slice at_ nt ct) rfl (by kernel_rfl) (by kernel_rfl) (by kernel_rfl) (fun _ _ _ h => h) (Or.inl ⟨by rfl, ?_⟩) (by assumption) ?_
      · intro w' hSw
        first | (go_simp; done) | (go_simp; intro h0; omega) | rfl
      try simp only [Act.put, List.getElem_toArray, List.getElem_cons_succ, List.getElem_cons_zero, List.setIfInBounds_toArray, List.set_cons_zero, List.set_cons_succ]
      refine wpAnyH_take (i := 29) (v := .agg #[.int .u8 k, .int .i64 0, .slice q1 bl d1]) rfl (by kernel_rfl) (by kernel_rfl) (by kernel_rfl) (fun _ _ _ h => h) (Or.inl ⟨by rfl, ?_⟩) (by assumption) ?_
      · intro w' hSw
        obtain ⟨⟨x0, x1, x2⟩, -⟩ := Types.cells3 hSw.2
        first | (go_simp; done) | (go_simp; intro h0; omega) | rfl
      try simp only [Act.put, List.getElem_toArray, List.getElem_cons_succ, List.getElem_cons_zero, List.setIfInBounds_toArray, List.set_cons_zero, List.set_cons_succ]
      refine wpAnyH_ready (rs := [27]) (by kernel_rfl) (by simp) ?_
      refine AllReadyH.cons rfl (fun K hK => ?_) AllReadyH.nil
      have HK2 := Lib.hid hK
      clear hK
      try rw [if_pos (by rfl)]
      go_simp
      refine (HSW.out _ HWv4.out).mono ?_
      rintro en v5 ⟨qe2, ce2, q2, c2, rfl, hT2, hb⟩
      have HXv5 := Lib.hid ((hb.block _ (lt_of_block HXv4.out)).trans HXv4.out)
      have HDv5 := Lib.hid ((hb.block _ (lt_of_block HDv4.out)).trans HDv4.out)
      have HWv5 := Lib.hid (below_then HWv4.out hb HWv4.out.size)
      have HTv5 := Lib.hid (HTv4.out.below hb)
      have HT2 := Lib.hid (hT2.reads' (Types.veil_reads _ _))
      clear hT2
      clear hb
      refine HK2.out _ _ ⟨HXv5.out, HDv5.out⟩ (fun hHeld => ?_)
      clear HK2
      try simp only [Act.put, List.getElem_toArray, List.getElem_cons_succ, List.getElem_cons_zero, List.setIfInBounds_toArray, List.set_cons_zero, List.set_cons_succ]
      clear K
      refine wpAnyH_ready (rs := [28]) (by kernel_rfl) (by simp) ?_
      refine AllReadyH.cons rfl (fun K hK => ?_) AllReadyH.nil
      have HK2 := Lib.hid hK
      clear hK
      try rw [if_pos (by rfl)]
      go_simp
      refine (HB2.out _ _ _ _ _ HT2.out).mono ?_
      rintro en v6 ⟨q3, d3, rfl, hT3, hb⟩
      have HXv6 := Lib.hid ((hb.block _ (lt_of_block HXv5.out)).trans HXv5.out)
      have HDv6 := Lib.hid ((hb.block _ (lt_of_block HDv5.out)).trans HDv5.out)
      have HWv6 := Lib.hid (below_then HWv5.out hb HWv5.out.size)
      have HTv6 := Lib.hid (HTv5.out.below hb)
      have HT3 := Lib.hid (bare_ty hT3)
      clear hT3
      clear hb
      refine HK2.out _ _ ⟨HXv6.out, HDv6.out⟩ (fun hHeld => ?_)
      clear HK2
      try simp only [Act.put, List.getElem_toArray, List.getElem_cons_succ, List.getElem_cons_zero, List.setIfInBounds_toArray, List.set_cons_zero, List.set_cons_succ]
      clear K
      refine wpAnyH_ready (rs := [30]) (by kernel_rfl) (by simp) ?_
      refine AllReadyH.cons rfl (fun K hK => ?_) AllReadyH.nil
      have HK2 := Lib.hid hK
      clear hK
      try rw [if_pos (by rfl)]
      go_simp
      refine (HSM.out _ _ _ _ _ HT3.out HTv6.out).mono ?_
      rintro en v7 ⟨rfl, hb⟩
      have HXv7 := Lib.hid ((hb.block _ (lt_of_block HXv6.out)).trans HXv6.out)
      have HDv7 := Lib.hid ((hb.block _ (lt_of_block HDv6.out)).trans HDv6.out)
      have HWv7 := Lib.hid (below_then HWv6.out hb HWv6.out.size)
      have HTv7 := Lib.hid (HTv6.out.below hb)
      clear hb
      refine HK2.out _ _ ⟨HXv7.out, HDv7.out⟩ (fun hHeld => ?_)
      clear HK2
      try simp only [Act.put, List.getElem_toArray, List.getElem_cons_succ, List.getElem_cons_zero, List.setIfInBounds_toArray, List.set_cons_zero, List.set_cons_succ]
      clear K
      refine wpAnyH_take (i := 31) (v := .bool true) rfl (by kernel_rfl) (by kernel_rfl) (by kernel_rfl) (fun _ _ _ h => h) (Or.inl ⟨by rfl, ?_⟩) (by assumption) ?_
      · intro w' hSw
        first | (go_simp; done) | (go_simp; intro h0; omega) | rfl
      try simp only [Act.put, List.getElem_toArray, List.getElem_cons_succ, List.getElem_cons_zero, List.setIfInBounds_toArray, List.set_cons_zero, List.set_cons_succ]
      refine wpAnyH_take (i := 32) (v := .bool true) rfl (by kernel_rfl) (by kernel_rfl) (by kernel_rfl) (fun _ _ _ h => h) (Or.inl ⟨by rfl, ?_⟩) (by assumption) ?_
      · intro w' hSw
        first | (go_simp; done) | (go_simp; intro h0; omega) | rfl
      try simp only [Act.put, List.getElem_toArray, List.getElem_cons_succ, List.getElem_cons_zero, List.setIfInBounds_toArray, List.set_cons_zero, List.set_cons_succ]
      refine wpAnyH_ready (rs := [33]) (by kernel_rfl) (by simp) ?_
      refine AllReadyH.cons rfl (fun K hK => ?_) AllReadyH.nil
      have HK2 := Lib.hid hK
      clear hK
      try rw [if_pos (by rfl)]
      go_simp
      refine (HAW.out _ HWv7.out).mono ?_
      rintro en v8 ⟨rfl, hb⟩
      have HXv8 := Lib.hid ((hb.block _ (lt_of_block HXv7.out)).trans HXv7.out)
      have HDv8 := Lib.hid ((hb.block _ (lt_of_block HDv7.out)).trans HDv7.out)
      have HWv8 := Lib.hid (below_then HWv7.out hb HWv7.out.size)
      have HTv8 := Lib.hid (HTv7.out.below hb)
      clear hb
      refine HK2.out _ _ ⟨HXv8.out, HDv8.out⟩ (fun hHeld => ?_)
      clear HK2
      try simp only [Act.put, List.getElem_toArray, List.getElem_cons_succ, List.getElem_cons_zero, List.setIfInBounds_toArray, List.set_cons_zero, List.set_cons_succ]
      clear K
      refine wpAnyH_take (i := 34) (v := .bool true) rfl (by kernel_rfl) (by kernel_rfl) (by kernel_rfl) (fun _ _ _ h => h) (Or.inl ⟨by rfl, ?_⟩) (by assumption) ?_
      · intro w' hSw
        first | (go_simp; done) | (go_simp; intro h0; omega) | rfl
      try simp only [Act.put, List.getElem_toArray, List.getElem_cons_succ, List.getElem_cons_zero, List.setIfInBounds_toArray, List.set_cons_zero, List.set_cons_succ]
      refine wpAnyH_take (i := 35) (v := .bool true) rfl (by kernel_rfl) (by kernel_rfl) (by kernel_rfl) (fun _ _ _ h => h) (Or.inl ⟨by rfl, ?_⟩) (by assumption) ?_
      · intro w' hSw
        first | (go_simp; done) | (go_simp; intro h0; omega) | rfl
      try simp only [Act.put, List.getElem_toArray, List.getElem_cons_succ, List.getElem_cons_zero, List.setIfInBounds_toArray, List.set_cons_zero, List.set_cons_succ]
      refine wpAnyH_done (by kernel_rfl) ?_ _
      clear hHeld
      go_wp2_with (fail)
      go_ret
      exact ⟨rfl, HWv8.out⟩
  · rw [HRT.out hmt] at HRM
    rw [hmt] at HM1
    clear hmt HRT
    go_enter Tryz.func6, Tryz.ntmps6
    go_wp2_with (fail)
    refine (HG1.out _ HWb.out).mono ?_
    rintro en w1 ⟨rfl, hb⟩
    have HXw1 := Lib.hid ((hb.block _ (lt_of_block HXb.out)).trans HXb.out)
    have HWw1 := Lib.hid (below_then HWb.out hb HWb.out.size)
    clear hb
    obtain ⟨⟨c0, c1, c2, c3⟩, -⟩ := cells4 HXw1.out
    rw [HGT.out]
    go_wp2_with (fail)
    refine (HB1.out _ HWw1.out).mono ?_
    rintro en w2 ⟨q1, d1, rfl, hT1, hb⟩
    have HXw2 := Lib.hid ((hb.block _ (lt_of_block HXw1.out)).trans HXw1.out)
    have HWw2 := Lib.hid (below_then HWw1.out hb HWw1.out.size)
    have HTy := Lib.hid (bare_ty hT1)
    clear hb hT1 c0 c1 c2 c3
    generalize hbl : (bareK t.ks).length = bl at *
    clear hbl
    have HXw3 := Lib.hid (((box_new (w := w2) (.cells #[.int .u8 k, .int .i64 0, .slice q1 bl d1] 37)).block _ (lt_of_block HXw2.out)).trans HXw2.out)
    have HWw3 := Lib.hid (below_then HWw2.out (box_new (w := w2) (.cells #[.int .u8 k, .int .i64 0, .slice q1 bl d1] 37)) HWw2.out.size)
    have HTw3 := Lib.hid (HTy.out.below (box_new (w := w2) (.cells #[.int .u8 k, .int .i64 0, .slice q1 bl d1] 37)))
    have HDw3 := Lib.hid (heap_alloc_new w2 (.cells #[.int .u8 k, .int .i64 0, .slice q1 bl d1] 37))
    clear HTy
    go_upto_region 4 with (fail)
    generalize hw3 : w2.alloc (.cells #[.int .u8 k, .int .i64 0, .slice q1 bl d1] 37) = w3 at *
    generalize hD : w2.heap.size = D at *
    clear hw3 hD
    have HXv0 := Lib.hid (show w3.drew.heap[w.heap.size]? = some (.cells #[.int .u8 k, .int .i64 v, .slice pe ne ce, .slice p l c] 25 (0, 0)) from HXw3.out)
    have HDv0 := Lib.hid (show w3.drew.heap[D]? = some (.cells #[.int .u8 k, .int .i64 0, .slice q1 bl d1] 37 (0, 0)) from HDw3.out)
    have HWv0 := Lib.hid (HWw3.out.drew)
    have HTv0 := Lib.hid (HTw3.out.below (Below.refl _ _).drew)
    refine wp_region_held_drew (S := fun (V : World) => V.heap[w.heap.size]? = some (.cells #[.int .u8 k, .int .i64 v, .slice pe ne ce, .slice p l c] 25 (0, 0)) ∧ V.heap[D]? = some (.cells #[.int .u8 k, .int .i64 0, .slice q1 bl d1] 37 (0, 0))) (by kernel_rfl) ⟨HXw3.out, HDw3.out⟩ (fun hHeld => ?_)
    generalize w3.drew = v0 at *
    refine wpAnyH_take (i := 0) (v := .agg #[.int .u8 k, .int .i64 0, .slice q1 bl d1]) rfl (by kernel_rfl) (by kernel_rfl) (by kernel_rfl) (fun _ _ _ h => h) (Or.inl ⟨by rfl, ?_⟩) (by assumption) ?_
    · intro w' hSw
      obtain ⟨⟨x0, x1, x2⟩, -⟩ := Types.cells3 hSw.2
      first | (go_simp; done) | (go_simp; intro h0; omega) | rfl
    try simp only [Act.put, List.getElem_toArray, List.getElem_cons_succ, List.getElem_cons_zero, List.setIfInBounds_toArray, List.set_cons_zero, List.set_cons_succ]
    refine wpAnyH_take (i := 2) (v := .agg #[.int .u8 k, .int .i64 v, .slice pe ne ce, .slice p l c]) rfl (by kernel_rfl) (by kernel_rfl) (by kernel_rfl) (fun _ _ _ h => h) (Or.inl ⟨by rfl, ?_⟩) (by assumption) ?_
    · intro w' hSw
      obtain ⟨⟨y0, y1, y2, y3⟩, -⟩ := cells4 hSw.1
      first | (go_simp; done) | (go_simp; intro h0; omega) | rfl
    try simp only [Act.put, List.getElem_toArray, List.getElem_cons_succ, List.getElem_cons_zero, List.setIfInBounds_toArray, List.set_cons_zero, List.set_cons_succ]
    refine wpAnyH_ready (rs := [1, 3]) (by kernel_rfl) (by simp) ?_
    refine AllReadyH.cons rfl (fun K hK => ?_) (AllReadyH.cons rfl (fun K hK => ?_) AllReadyH.nil)
    · have HK2 := Lib.hid hK
      clear hK
      try rw [if_pos (by rfl)]
      go_simp
      refine (HRS.out _ _ _ HTv0.out).mono ?_
      rintro en v1 ⟨rfl, hb⟩
      have HXv1 := Lib.hid ((hb.block _ (lt_of_block HXv0.out)).trans HXv0.out)
      have HDv1 := Lib.hid ((hb.block _ (lt_of_block HDv0.out)).trans HDv0.out)
      have HWv1 := Lib.hid (below_then HWv0.out hb HWv0.out.size)
      have HTv1 := Lib.hid (HTv0.out.below hb)
      clear hb
      refine HK2.out _ _ ⟨HXv1.out, HDv1.out⟩ (fun hHeld => ?_)
      clear HK2
      try simp only [Act.put, List.getElem_toArray, List.getElem_cons_succ, List.getElem_cons_zero, List.setIfInBounds_toArray, List.set_cons_zero, List.set_cons_succ]
      clear K
      refine wpAnyH_ready (rs := [3]) (by kernel_rfl) (by simp) ?_
      refine AllReadyH.cons rfl (fun K hK => ?_) AllReadyH.nil
      have HK2 := Lib.hid hK
      clear hK
      try rw [if_pos (by rfl)]
      go_simp
      have HS3 := Lib.hid (And.intro (((box_new (w := v1) (.cells #[.int .u8 k, .int .i64 v, .slice pe ne ce, .slice p l c] 25)).block _ (lt_of_block HXv1.out)).trans HXv1.out) (((box_new (w := v1) (.cells #[.int .u8 k, .int .i64 v, .slice pe ne ce, .slice p l c] 25)).block _ (lt_of_block HDv1.out)).trans HDv1.out))
      refine HK2.out _ _ ⟨HS3.out.1, HS3.out.2⟩ (fun hHeld => ?_)
      clear HK2
      try simp only [Act.put, List.getElem_toArray, List.getElem_cons_succ, List.getElem_cons_zero, List.setIfInBounds_toArray, List.set_cons_zero, List.set_cons_succ]
      clear K
      refine wpAnyH_ready (rs := [4]) (by kernel_rfl) (by simp) ?_
      refine AllReadyH.cons rfl (fun K hK => ?_) AllReadyH.nil
      have HK2 := Lib.hid hK
      clear hK
      try rw [if_pos (by rfl)]
      go_simp
      refine (HS1.out _ HWv1.out).mono ?_
      rintro en v2 ⟨rfl, hb⟩
      have HXv2 := Lib.hid ((hb.block _ (lt_of_block HXv1.out)).trans HXv1.out)
      have HDv2 := Lib.hid ((hb.block _ (lt_of_block HDv1.out)).trans HDv1.out)
      have HWv2 := Lib.hid (below_then HWv1.out hb HWv1.out.size)
      have HTv2 := Lib.hid (HTv1.out.below hb)
      clear hb
      refine HK2.out _ _ ⟨HXv2.out, HDv2.out⟩ (fun hHeld => ?_)
      clear HK2
      try simp only [Act.put, List.getElem_toArray, List.getElem_cons_succ, List.getElem_cons_zero, List.setIfInBounds_toArray, List.set_cons_zero, List.set_cons_succ]
      clear K
      refine wpAnyH_take (i := 5) (v := .bool true) rfl (by kernel_rfl) (by kernel_rfl) (by kernel_rfl) (fun _ _ _ h => h) (Or.inl ⟨by rfl, ?_⟩) (by assumption) ?_
      · intro w' hSw
        first | (go_simp; done) | (go_simp; intro h0; omega) | rfl
      try simp only [Act.put, List.getElem_toArray, List.getElem_cons_succ, List.getElem_cons_zero, List.setIfInBounds_toArray, List.set_cons_zero, List.set_cons_succ]
      refine wpAnyH_take (i := 6) (v := .bool true) rfl (by kernel_rfl) (by kernel_rfl) (by kernel_rfl) (fun _ _ _ h => h) (Or.inl ⟨by rfl, ?_⟩) (by assumption) ?_
      · intro w' hSw
        first | (go_simp; done) | (go_simp; intro h0; omega) | rfl
      try simp only [Act.put, List.getElem_toArray, List.getElem_cons_succ, List.getElem_cons_zero, List.setIfInBounds_toArray, List.set_cons_zero, List.set_cons_succ]
      refine wpAnyH_take (i := 7) (v := .pointer (some ⟨D, 0, none⟩)) rfl (by kernel_rfl) (by kernel_rfl) (by kernel_rfl) (fun _ _ _ h => h) (Or.inl ⟨by rfl, ?_⟩) (by assumption) ?_
      · intro w' hSw
        first | (go_simp; done) | (go_simp; intro h0; omega) | rfl
      try simp only [Act.put, List.getElem_toArray, List.getElem_cons_succ, List.getElem_cons_zero, List.setIfInBounds_toArray, List.set_cons_zero, List.set_cons_succ]
      refine wpAnyH_take (i := 8) (v := .int .u8 k) rfl (by kernel_rfl) (by kernel_rfl) (by kernel_rfl) (fun _ _ _ h => h) (Or.inl ⟨by rfl, ?_⟩) (by assumption) ?_
      · intro w' hSw
        obtain ⟨⟨x0, x1, x2⟩, -⟩ := Types.cells3 hSw.2
        first | (go_simp; done) | (go_simp; intro h0; omega) | rfl
      try simp only [Act.put, List.getElem_toArray, List.getElem_cons_succ, List.getElem_cons_zero, List.setIfInBounds_toArray, List.set_cons_zero, List.set_cons_succ]
      refine wpAnyH_take (i := 9) (v := .pointer (some ⟨w.heap.size, 0, none⟩)) rfl (by kernel_rfl) (by kernel_rfl) (by kernel_rfl) (fun _ _ _ h => h) (Or.inl ⟨by rfl, ?_⟩) (by assumption) ?_
      · intro w' hSw
        first | (go_simp; done) | (go_simp; intro h0; omega) | rfl
      try simp only [Act.put, List.getElem_toArray, List.getElem_cons_succ, List.getElem_cons_zero, List.setIfInBounds_toArray, List.set_cons_zero, List.set_cons_succ]
      refine wpAnyH_take (i := 10) (v := .int .u8 k) rfl (by kernel_rfl) (by kernel_rfl) (by kernel_rfl) (fun _ _ _ h => h) (Or.inl ⟨by rfl, ?_⟩) (by assumption) ?_
      · intro w' hSw
        obtain ⟨⟨y0, y1, y2, y3⟩, -⟩ := cells4 hSw.1
        first | (go_simp; done) | (go_simp; intro h0; omega) | rfl
      try simp only [Act.put, List.getElem_toArray, List.getElem_cons_succ, List.getElem_cons_zero, List.setIfInBounds_toArray, List.set_cons_zero, List.set_cons_succ]
      refine wpAnyH_take (i := 11) (v := .bool true) rfl (by kernel_rfl) (by kernel_rfl) (by kernel_rfl) (fun _ _ _ h => h) (Or.inl ⟨by rfl, ?_⟩) (by assumption) ?_
      · intro w' hSw
        first | (go_simp; done) | (go_simp; intro h0; omega) | rfl
      try simp only [Act.put, List.getElem_toArray, List.getElem_cons_succ, List.getElem_cons_zero, List.setIfInBounds_toArray, List.set_cons_zero, List.set_cons_succ]
      refine wpAnyH_take (i := 12) (v := .bool true) rfl (by kernel_rfl) (by kernel_rfl) (by kernel_rfl) (fun _ _ _ h => h) (Or.inl ⟨by rfl, ?_⟩) (by assumption) ?_
      · intro w' hSw
        first | (go_simp; done) | (go_simp; intro h0; omega) | rfl
      try simp only [Act.put, List.getElem_toArray, List.getElem_cons_succ, List.getElem_cons_zero, List.setIfInBounds_toArray, List.set_cons_zero, List.set_cons_succ]
      refine wpAnyH_take (i := 13) (v := .bool true) rfl (by kernel_rfl) (by kernel_rfl) (by kernel_rfl) (fun _ _ _ h => h) (Or.inl ⟨by rfl, ?_⟩) (by assumption) ?_
      · intro w' hSw
        first | (go_simp; done) | (go_simp; intro h0; omega) | rfl
      try simp only [Act.put, List.getElem_toArray, List.getElem_cons_succ, List.getElem_cons_zero, List.setIfInBounds_toArray, List.set_cons_zero, List.set_cons_succ]
      refine wpAnyH_take (i := 14) (v := .agg #[.int .u8 k, .int .i64 v, .slice pe ne ce, .slice p l c]) rfl (by kernel_rfl) (by kernel_rfl) (by kernel_rfl) (fun _ _ _ h => h) (Or.inl ⟨by rfl, ?_⟩) (by assumption) ?_
      · intro w' hSw
        obtain ⟨⟨y0, y1, y2, y3⟩, -⟩ := cells4 hSw.1
        first | (go_simp; done) | (go_simp; intro h0; omega) | rfl
      try simp only [Act.put, List.getElem_toArray, List.getElem_cons_succ, List.getElem_cons_zero, List.setIfInBounds_toArray, List.set_cons_zero, List.set_cons_succ]
      refine wpAnyH_ready (rs := [15]) (by kernel_rfl) (by simp) ?_
      refine AllReadyH.cons rfl (fun K hK => ?_) AllReadyH.nil
      have HK2 := Lib.hid hK
      clear hK
      try rw [if_pos (by rfl)]
      go_simp
      have HS15 := Lib.hid (And.intro (((box_new (w := v2) (.cells #[.int .u8 k, .int .i64 v, .slice pe ne ce, .slice p l c] 25)).block _ (lt_of_block HXv2.out)).trans HXv2.out) (((box_new (w := v2) (.cells #[.int .u8 k, .int .i64 v, .slice pe ne ce, .slice p l c] 25)).block _ (lt_of_block HDv2.out)).trans HDv2.out))
      refine HK2.out _ _ ⟨HS15.out.1, HS15.out.2⟩ (fun hHeld => ?_)
      clear HK2
      try simp only [Act.put, List.getElem_toArray, List.getElem_cons_succ, List.getElem_cons_zero, List.setIfInBounds_toArray, List.set_cons_zero, List.set_cons_succ]
      clear K
      refine wpAnyH_ready (rs := [16]) (by kernel_rfl) (by simp) ?_
      refine AllReadyH.cons rfl (fun K hK => ?_) AllReadyH.nil
      have HK2 := Lib.hid hK
      clear hK
      try rw [if_pos (by rfl)]
      go_simp
      refine (HM1.out _ HWv2.out).mono ?_
      rintro en v3 ⟨rfl, hb⟩
      have HXv3 := Lib.hid ((hb.block _ (lt_of_block HXv2.out)).trans HXv2.out)
      have HDv3 := Lib.hid ((hb.block _ (lt_of_block HDv2.out)).trans HDv2.out)
      have HWv3 := Lib.hid (below_then HWv2.out hb HWv2.out.size)
      have HTv3 := Lib.hid (HTv2.out.below hb)
      clear hb
      refine HK2.out _ _ ⟨HXv3.out, HDv3.out⟩ (fun hHeld => ?_)
      clear HK2
      try simp only [Act.put, List.getElem_toArray, List.getElem_cons_succ, List.getElem_cons_zero, List.setIfInBounds_toArray, List.set_cons_zero, List.set_cons_succ]
      clear K
      refine wpAnyH_take (i := 17) (v := .bool false) rfl (by kernel_rfl) (by kernel_rfl) (by kernel_rfl) (fun _ _ _ h => h) (Or.inl ⟨by rfl, ?_⟩) (by assumption) ?_
      · intro w' hSw
        first | (go_simp; done) | (go_simp; intro h0; omega) | rfl
      try simp only [Act.put, List.getElem_toArray, List.getElem_cons_succ, List.getElem_cons_zero, List.setIfInBounds_toArray, List.set_cons_zero, List.set_cons_succ]
      refine wpAnyH_take (i := 18) (v := .bool false) rfl (by kernel_rfl) (by kernel_rfl) (by kernel_rfl) (fun _ _ _ h => h) (Or.inl ⟨by rfl, ?_⟩) (by assumption) ?_
      · intro w' hSw
        first | (go_simp; done) | (go_simp; intro h0; omega) | rfl
      try simp only [Act.put, List.getElem_toArray, List.getElem_cons_succ, List.getElem_cons_zero, List.setIfInBounds_toArray, List.set_cons_zero, List.set_cons_succ]
      refine wpAnyH_take (i := 19) (v := .agg #[.int .u8 k, .int .i64 0, .slice q1 bl d1]) rfl (by kernel_rfl) (by kernel_rfl) (by kernel_rfl) (fun _ _ _ h => h) (Or.inl ⟨by rfl, ?_⟩) (by assumption) ?_
      · intro w' hSw
        obtain ⟨⟨x0, x1, x2⟩, -⟩ := Types.cells3 hSw.2
        first | (go_simp; done) | (go_simp; intro h0; omega) | rfl
      try simp only [Act.put, List.getElem_toArray, List.getElem_cons_succ, List.getElem_cons_zero, List.setIfInBounds_toArray, List.set_cons_zero, List.set_cons_succ]
      refine wpAnyH_ready (rs := [20]) (by kernel_rfl) (by simp) ?_
      refine AllReadyH.cons rfl (fun K hK => ?_) AllReadyH.nil
      have HK2 := Lib.hid hK
      clear hK
      try rw [if_pos (by rfl)]
      go_simp
      refine (HRM.out _ _ _ HTv3.out).mono ?_
      rintro en v4 ⟨rfl, hb⟩
      have HXv4 := Lib.hid ((hb.block _ (lt_of_block HXv3.out)).trans HXv3.out)
      have HDv4 := Lib.hid ((hb.block _ (lt_of_block HDv3.out)).trans HDv3.out)
      have HWv4 := Lib.hid (below_then HWv3.out hb HWv3.out.size)
      have HTv4 := Lib.hid (HTv3.out.below hb)
      clear hb
      refine HK2.out _ _ ⟨HXv4.out, HDv4.out⟩ (fun hHeld => ?_)
      clear HK2
      try simp only [Act.put, List.getElem_toArray, List.getElem_cons_succ, List.getElem_cons_zero, List.setIfInBounds_toArray, List.set_cons_zero, List.set_cons_succ]
      clear K
      refine wpAnyH_take (i := 21) (v := .bool true) rfl (by kernel_rfl) (by kernel_rfl) (by kernel_rfl) (fun _ _ _ h => h) (Or.inl ⟨by rfl, ?_⟩) (by assumption) ?_
      · intro w' hSw
        first | (go_simp; done) | (go_simp; intro h0; omega) | rfl
      try simp only [Act.put, List.getElem_toArray, List.getElem_cons_succ, List.getElem_cons_zero, List.setIfInBounds_toArray, List.set_cons_zero, List.set_cons_succ]
      refine wpAnyH_take (i := 22) (v := .bool true) rfl (by kernel_rfl) (by kernel_rfl) (by kernel_rfl) (fun _ _ _ h => h) (Or.inl ⟨by rfl, ?_⟩) (by assumption) ?_
      · intro w' hSw
        first | (go_simp; done) | (go_simp; intro h0; omega) | rfl
      try simp only [Act.put, List.getElem_toArray, List.getElem_cons_succ, List.getElem_cons_zero, List.setIfInBounds_toArray, List.set_cons_zero, List.set_cons_succ]
      refine wpAnyH_take (i := 23) (v := .bool true) rfl (by kernel_rfl) (by kernel_rfl) (by kernel_rfl) (fun _ _ _ h => h) (Or.inl ⟨by rfl, ?_⟩) (by assumption) ?_
      · intro w' hSw
        first | (go_simp; done) | (go_simp; intro h0; omega) | rfl
      try simp only [Act.put, List.getElem_toArray, List.getElem_cons_succ, List.getElem_cons_zero, List.setIfInBounds_toArray, List.set_cons_zero, List.set_cons_succ]
      refine wpAnyH_take (i := 24) (v := .agg #[.int .u8 k, .int .i64 v, .slice pe ne ce, .slice p l c]) rfl (by kernel_rfl) (by kernel_rfl) (by kernel_rfl) (fun _ _ _ h => h) (Or.inl ⟨by rfl, ?_⟩) (by assumption) ?_
      · intro w' hSw
        obtain ⟨⟨y0, y1, y2, y3⟩, -⟩ := cells4 hSw.1
        first | (go_simp; done) | (go_simp; intro h0; omega) | rfl
      try simp only [Act.put, List.getElem_toArray, List.getElem_cons_succ, List.getElem_cons_zero, List.setIfInBounds_toArray, List.set_cons_zero, List.set_cons_succ]
      refine wpAnyH_take (i := 25) (v := .slice af nf cf) rfl (by kernel_rfl) (by kernel_rfl) (by kernel_rfl) (fun _ _ _ h => h) (Or.inl ⟨by rfl, ?_⟩) (by assumption) ?_
      · intro w' hSw
        first | (go_simp; done) | (go_simp; intro h0; omega) | rfl
      try simp only [Act.put, List.getElem_toArray, List.getElem_cons_succ, List.getElem_cons_zero, List.setIfInBounds_toArray, List.set_cons_zero, List.set_cons_succ]
      refine wpAnyH_take (i := 26) (v := .slice at_ nt ct) rfl (by kernel_rfl) (by kernel_rfl) (by kernel_rfl) (fun _ _ _ h => h) (Or.inl ⟨by rfl, ?_⟩) (by assumption) ?_
      · intro w' hSw
        first | (go_simp; done) | (go_simp; intro h0; omega) | rfl
      try simp only [Act.put, List.getElem_toArray, List.getElem_cons_succ, List.getElem_cons_zero, List.setIfInBounds_toArray, List.set_cons_zero, List.set_cons_succ]
      refine wpAnyH_take (i := 29) (v := .agg #[.int .u8 k, .int .i64 0, .slice q1 bl d1]) rfl (by kernel_rfl) (by kernel_rfl) (by kernel_rfl) (fun _ _ _ h => h) (Or.inl ⟨by rfl, ?_⟩) (by assumption) ?_
      · intro w' hSw
        obtain ⟨⟨x0, x1, x2⟩, -⟩ := Types.cells3 hSw.2
        first | (go_simp; done) | (go_simp; intro h0; omega) | rfl
      try simp only [Act.put, List.getElem_toArray, List.getElem_cons_succ, List.getElem_cons_zero, List.setIfInBounds_toArray, List.set_cons_zero, List.set_cons_succ]
      refine wpAnyH_ready (rs := [27]) (by kernel_rfl) (by simp) ?_
      refine AllReadyH.cons rfl (fun K hK => ?_) AllReadyH.nil
      have HK2 := Lib.hid hK
      clear hK
      try rw [if_pos (by rfl)]
      go_simp
      refine (HSW.out _ HWv4.out).mono ?_
      rintro en v5 ⟨qe2, ce2, q2, c2, rfl, hT2, hb⟩
      have HXv5 := Lib.hid ((hb.block _ (lt_of_block HXv4.out)).trans HXv4.out)
      have HDv5 := Lib.hid ((hb.block _ (lt_of_block HDv4.out)).trans HDv4.out)
      have HWv5 := Lib.hid (below_then HWv4.out hb HWv4.out.size)
      have HTv5 := Lib.hid (HTv4.out.below hb)
      have HT2 := Lib.hid (hT2.reads' (Types.veil_reads _ _))
      clear hT2
      clear hb
      refine HK2.out _ _ ⟨HXv5.out, HDv5.out⟩ (fun hHeld => ?_)
      clear HK2
      try simp only [Act.put, List.getElem_toArray, List.getElem_cons_succ, List.getElem_cons_zero, List.setIfInBounds_toArray, List.set_cons_zero, List.set_cons_succ]
      clear K
      refine wpAnyH_ready (rs := [28]) (by kernel_rfl) (by simp) ?_
      refine AllReadyH.cons rfl (fun K hK => ?_) AllReadyH.nil
      have HK2 := Lib.hid hK
      clear hK
      try rw [if_pos (by rfl)]
      go_simp
      refine (HB2.out _ _ _ _ _ HT2.out).mono ?_
      rintro en v6 ⟨q3, d3, rfl, hT3, hb⟩
      have HXv6 := Lib.hid ((hb.block _ (lt_of_block HXv5.out)).trans HXv5.out)
      have HDv6 := Lib.hid ((hb.block _ (lt_of_block HDv5.out)).trans HDv5.out)
      have HWv6 := Lib.hid (below_then HWv5.out hb HWv5.out.size)
      have HTv6 := Lib.hid (HTv5.out.below hb)
      have HT3 := Lib.hid (bare_ty hT3)
      clear hT3
      clear hb
      refine HK2.out _ _ ⟨HXv6.out, HDv6.out⟩ (fun hHeld => ?_)
      clear HK2
      try simp only [Act.put, List.getElem_toArray, List.getElem_cons_succ, List.getElem_cons_zero, List.setIfInBounds_toArray, List.set_cons_zero, List.set_cons_succ]
      clear K
      refine wpAnyH_ready (rs := [30]) (by kernel_rfl) (by simp) ?_
      refine AllReadyH.cons rfl (fun K hK => ?_) AllReadyH.nil
      have HK2 := Lib.hid hK
      clear hK
      try rw [if_pos (by rfl)]
      go_simp
      refine (HSM.out _ _ _ _ _ HT3.out HTv6.out).mono ?_
      rintro en v7 ⟨rfl, hb⟩
      have HXv7 := Lib.hid ((hb.block _ (lt_of_block HXv6.out)).trans HXv6.out)
      have HDv7 := Lib.hid ((hb.block _ (lt_of_block HDv6.out)).trans HDv6.out)
      have HWv7 := Lib.hid (below_then HWv6.out hb HWv6.out.size)
      have HTv7 := Lib.hid (HTv6.out.below hb)
      clear hb
      refine HK2.out _ _ ⟨HXv7.out, HDv7.out⟩ (fun hHeld => ?_)
      clear HK2
      try simp only [Act.put, List.getElem_toArray, List.getElem_cons_succ, List.getElem_cons_zero, List.setIfInBounds_toArray, List.set_cons_zero, List.set_cons_succ]
      clear K
      refine wpAnyH_take (i := 31) (v := .bool true) rfl (by kernel_rfl) (by kernel_rfl) (by kernel_rfl) (fun _ _ _ h => h) (Or.inl ⟨by rfl, ?_⟩) (by assumption) ?_
      · intro w' hSw
        first | (go_simp; done) | (go_simp; intro h0; omega) | rfl
      try simp only [Act.put, List.getElem_toArray, List.getElem_cons_succ, List.getElem_cons_zero, List.setIfInBounds_toArray, List.set_cons_zero, List.set_cons_succ]
      refine wpAnyH_take (i := 32) (v := .bool true) rfl (by kernel_rfl) (by kernel_rfl) (by kernel_rfl) (fun _ _ _ h => h) (Or.inl ⟨by rfl, ?_⟩) (by assumption) ?_
      · intro w' hSw
        first | (go_simp; done) | (go_simp; intro h0; omega) | rfl
      try simp only [Act.put, List.getElem_toArray, List.getElem_cons_succ, List.getElem_cons_zero, List.setIfInBounds_toArray, List.set_cons_zero, List.set_cons_succ]
      refine wpAnyH_ready (rs := [33]) (by kernel_rfl) (by simp) ?_
      refine AllReadyH.cons rfl (fun K hK => ?_) AllReadyH.nil
      have HK2 := Lib.hid hK
      clear hK
      try rw [if_pos (by rfl)]
      go_simp
      refine (HAW.out _ HWv7.out).mono ?_
      rintro en v8 ⟨rfl, hb⟩
      have HXv8 := Lib.hid ((hb.block _ (lt_of_block HXv7.out)).trans HXv7.out)
      have HDv8 := Lib.hid ((hb.block _ (lt_of_block HDv7.out)).trans HDv7.out)
      have HWv8 := Lib.hid (below_then HWv7.out hb HWv7.out.size)
      have HTv8 := Lib.hid (HTv7.out.below hb)
      clear hb
      refine HK2.out _ _ ⟨HXv8.out, HDv8.out⟩ (fun hHeld => ?_)
      clear HK2
      try simp only [Act.put, List.getElem_toArray, List.getElem_cons_succ, List.getElem_cons_zero, List.setIfInBounds_toArray, List.set_cons_zero, List.set_cons_succ]
      clear K
      refine wpAnyH_take (i := 34) (v := .bool true) rfl (by kernel_rfl) (by kernel_rfl) (by kernel_rfl) (fun _ _ _ h => h) (Or.inl ⟨by rfl, ?_⟩) (by assumption) ?_
      · intro w' hSw
        first | (go_simp; done) | (go_simp; intro h0; omega) | rfl
      try simp only [Act.put, List.getElem_toArray, List.getElem_cons_succ, List.getElem_cons_zero, List.setIfInBounds_toArray, List.set_cons_zero, List.set_cons_succ]
      refine wpAnyH_take (i := 35) (v := .bool true) rfl (by kernel_rfl) (by kernel_rfl) (by kernel_rfl) (fun _ _ _ h => h) (Or.inl ⟨by rfl, ?_⟩) (by assumption) ?_
      · intro w' hSw
        first | (go_simp; done) | (go_simp; intro h0; omega) | rfl
      try simp only [Act.put, List.getElem_toArray, List.getElem_cons_succ, List.getElem_cons_zero, List.setIfInBounds_toArray, List.set_cons_zero, List.set_cons_succ]
      refine wpAnyH_done (by kernel_rfl) ?_ _
      clear hHeld
      go_wp2_with (fail)
      go_ret
      exact ⟨rfl, HWv8.out⟩
    · have HK2 := Lib.hid hK
      clear hK
      try rw [if_pos (by rfl)]
      go_simp
      have hs3 := box_new (w := v0) (.cells #[.int .u8 k, .int .i64 v, .slice pe ne ce, .slice p l c] 25)
      have HXv1 := Lib.hid ((hs3.block _ (lt_of_block HXv0.out)).trans HXv0.out)
      have HDv1 := Lib.hid ((hs3.block _ (lt_of_block HDv0.out)).trans HDv0.out)
      have HWv1 := Lib.hid (below_then HWv0.out hs3 HWv0.out.size)
      have HTv1 := Lib.hid (HTv0.out.below hs3)
      have HKv1 := Lib.hid (HK1.out v0 HWv0.out)
      clear hs3
      refine HK2.out _ _ ⟨HXv1.out, HDv1.out⟩ (fun hHeld => ?_)
      clear HK2
      try simp only [Act.put, List.getElem_toArray, List.getElem_cons_succ, List.getElem_cons_zero, List.setIfInBounds_toArray, List.set_cons_zero, List.set_cons_succ]
      clear K
      generalize hN3 : v0.heap.size = N3 at *
      generalize v0.alloc (.cells #[.int .u8 k, .int .i64 v, .slice pe ne ce, .slice p l c] 25) = v1 at *
      clear hN3
      refine wpAnyH_ready (rs := [1]) (by kernel_rfl) (by simp) ?_
      refine AllReadyH.cons rfl (fun K hK => ?_) AllReadyH.nil
      have HK2 := Lib.hid hK
      clear hK
      try rw [if_pos (by rfl)]
      go_simp
      refine (HRS.out _ _ _ HTv1.out).mono ?_
      rintro en v2 ⟨rfl, hb⟩
      have HXv2 := Lib.hid ((hb.block _ (lt_of_block HXv1.out)).trans HXv1.out)
      have HDv2 := Lib.hid ((hb.block _ (lt_of_block HDv1.out)).trans HDv1.out)
      have HWv2 := Lib.hid (below_then HWv1.out hb HWv1.out.size)
      have HTv2 := Lib.hid (HTv1.out.below hb)
      have HKv2 := Lib.hid (HKv1.out.stay hb)
      clear hb
      refine HK2.out _ _ ⟨HXv2.out, HDv2.out⟩ (fun hHeld => ?_)
      clear HK2
      try simp only [Act.put, List.getElem_toArray, List.getElem_cons_succ, List.getElem_cons_zero, List.setIfInBounds_toArray, List.set_cons_zero, List.set_cons_succ]
      clear K
      refine wpAnyH_ready (rs := [4]) (by kernel_rfl) (by simp) ?_
      refine AllReadyH.cons rfl (fun K hK => ?_) AllReadyH.nil
      have HK2 := Lib.hid hK
      clear hK
      try rw [if_pos (by rfl)]
      go_simp
      refine (HSK.out _ _ HKv2.out).mono ?_
      rintro en v3 ⟨rfl, hb⟩
      have HXv3 := Lib.hid ((hb.block _ (lt_of_block HXv2.out)).trans HXv2.out)
      have HDv3 := Lib.hid ((hb.block _ (lt_of_block HDv2.out)).trans HDv2.out)
      have HWv3 := Lib.hid (below_then HWv2.out hb HWv2.out.size)
      have HTv3 := Lib.hid (HTv2.out.below hb)
      clear hb
      refine HK2.out _ _ ⟨HXv3.out, HDv3.out⟩ (fun hHeld => ?_)
      clear HK2
      try simp only [Act.put, List.getElem_toArray, List.getElem_cons_succ, List.getElem_cons_zero, List.setIfInBounds_toArray, List.set_cons_zero, List.set_cons_succ]
      clear K
      refine wpAnyH_take (i := 5) (v := .bool true) rfl (by kernel_rfl) (by kernel_rfl) (by kernel_rfl) (fun _ _ _ h => h) (Or.inl ⟨by rfl, ?_⟩) (by assumption) ?_
      · intro w' hSw
        first | (go_simp; done) | (go_simp; intro h0; omega) | rfl
      try simp only [Act.put, List.getElem_toArray, List.getElem_cons_succ, List.getElem_cons_zero, List.setIfInBounds_toArray, List.set_cons_zero, List.set_cons_succ]
      refine wpAnyH_take (i := 6) (v := .bool true) rfl (by kernel_rfl) (by kernel_rfl) (by kernel_rfl) (fun _ _ _ h => h) (Or.inl ⟨by rfl, ?_⟩) (by assumption) ?_
      · intro w' hSw
        first | (go_simp; done) | (go_simp; intro h0; omega) | rfl
      try simp only [Act.put, List.getElem_toArray, List.getElem_cons_succ, List.getElem_cons_zero, List.setIfInBounds_toArray, List.set_cons_zero, List.set_cons_succ]
      refine wpAnyH_take (i := 7) (v := .pointer (some ⟨D, 0, none⟩)) rfl (by kernel_rfl) (by kernel_rfl) (by kernel_rfl) (fun _ _ _ h => h) (Or.inl ⟨by rfl, ?_⟩) (by assumption) ?_
      · intro w' hSw
        first | (go_simp; done) | (go_simp; intro h0; omega) | rfl
      try simp only [Act.put, List.getElem_toArray, List.getElem_cons_succ, List.getElem_cons_zero, List.setIfInBounds_toArray, List.set_cons_zero, List.set_cons_succ]
      refine wpAnyH_take (i := 8) (v := .int .u8 k) rfl (by kernel_rfl) (by kernel_rfl) (by kernel_rfl) (fun _ _ _ h => h) (Or.inl ⟨by rfl, ?_⟩) (by assumption) ?_
      · intro w' hSw
        obtain ⟨⟨x0, x1, x2⟩, -⟩ := Types.cells3 hSw.2
        first | (go_simp; done) | (go_simp; intro h0; omega) | rfl
      try simp only [Act.put, List.getElem_toArray, List.getElem_cons_succ, List.getElem_cons_zero, List.setIfInBounds_toArray, List.set_cons_zero, List.set_cons_succ]
      refine wpAnyH_take (i := 9) (v := .pointer (some ⟨w.heap.size, 0, none⟩)) rfl (by kernel_rfl) (by kernel_rfl) (by kernel_rfl) (fun _ _ _ h => h) (Or.inl ⟨by rfl, ?_⟩) (by assumption) ?_
      · intro w' hSw
        first | (go_simp; done) | (go_simp; intro h0; omega) | rfl
      try simp only [Act.put, List.getElem_toArray, List.getElem_cons_succ, List.getElem_cons_zero, List.setIfInBounds_toArray, List.set_cons_zero, List.set_cons_succ]
      refine wpAnyH_take (i := 10) (v := .int .u8 k) rfl (by kernel_rfl) (by kernel_rfl) (by kernel_rfl) (fun _ _ _ h => h) (Or.inl ⟨by rfl, ?_⟩) (by assumption) ?_
      · intro w' hSw
        obtain ⟨⟨y0, y1, y2, y3⟩, -⟩ := cells4 hSw.1
        first | (go_simp; done) | (go_simp; intro h0; omega) | rfl
      try simp only [Act.put, List.getElem_toArray, List.getElem_cons_succ, List.getElem_cons_zero, List.setIfInBounds_toArray, List.set_cons_zero, List.set_cons_succ]
      refine wpAnyH_take (i := 11) (v := .bool true) rfl (by kernel_rfl) (by kernel_rfl) (by kernel_rfl) (fun _ _ _ h => h) (Or.inl ⟨by rfl, ?_⟩) (by assumption) ?_
      · intro w' hSw
        first | (go_simp; done) | (go_simp; intro h0; omega) | rfl
      try simp only [Act.put, List.getElem_toArray, List.getElem_cons_succ, List.getElem_cons_zero, List.setIfInBounds_toArray, List.set_cons_zero, List.set_cons_succ]
      refine wpAnyH_take (i := 12) (v := .bool true) rfl (by kernel_rfl) (by kernel_rfl) (by kernel_rfl) (fun _ _ _ h => h) (Or.inl ⟨by rfl, ?_⟩) (by assumption) ?_
      · intro w' hSw
        first | (go_simp; done) | (go_simp; intro h0; omega) | rfl
      try simp only [Act.put, List.getElem_toArray, List.getElem_cons_succ, List.getElem_cons_zero, List.setIfInBounds_toArray, List.set_cons_zero, List.set_cons_succ]
      refine wpAnyH_take (i := 13) (v := .bool true) rfl (by kernel_rfl) (by kernel_rfl) (by kernel_rfl) (fun _ _ _ h => h) (Or.inl ⟨by rfl, ?_⟩) (by assumption) ?_
      · intro w' hSw
        first | (go_simp; done) | (go_simp; intro h0; omega) | rfl
      try simp only [Act.put, List.getElem_toArray, List.getElem_cons_succ, List.getElem_cons_zero, List.setIfInBounds_toArray, List.set_cons_zero, List.set_cons_succ]
      refine wpAnyH_take (i := 14) (v := .agg #[.int .u8 k, .int .i64 v, .slice pe ne ce, .slice p l c]) rfl (by kernel_rfl) (by kernel_rfl) (by kernel_rfl) (fun _ _ _ h => h) (Or.inl ⟨by rfl, ?_⟩) (by assumption) ?_
      · intro w' hSw
        obtain ⟨⟨y0, y1, y2, y3⟩, -⟩ := cells4 hSw.1
        first | (go_simp; done) | (go_simp; intro h0; omega) | rfl
      try simp only [Act.put, List.getElem_toArray, List.getElem_cons_succ, List.getElem_cons_zero, List.setIfInBounds_toArray, List.set_cons_zero, List.set_cons_succ]
      refine wpAnyH_ready (rs := [15]) (by kernel_rfl) (by simp) ?_
      refine AllReadyH.cons rfl (fun K hK => ?_) AllReadyH.nil
      have HK2 := Lib.hid hK
      clear hK
      try rw [if_pos (by rfl)]
      go_simp
      have HS15 := Lib.hid (And.intro (((box_new (w := v3) (.cells #[.int .u8 k, .int .i64 v, .slice pe ne ce, .slice p l c] 25)).block _ (lt_of_block HXv3.out)).trans HXv3.out) (((box_new (w := v3) (.cells #[.int .u8 k, .int .i64 v, .slice pe ne ce, .slice p l c] 25)).block _ (lt_of_block HDv3.out)).trans HDv3.out))
      refine HK2.out _ _ ⟨HS15.out.1, HS15.out.2⟩ (fun hHeld => ?_)
      clear HK2
      try simp only [Act.put, List.getElem_toArray, List.getElem_cons_succ, List.getElem_cons_zero, List.setIfInBounds_toArray, List.set_cons_zero, List.set_cons_succ]
      clear K
      refine wpAnyH_ready (rs := [16]) (by kernel_rfl) (by simp) ?_
      refine AllReadyH.cons rfl (fun K hK => ?_) AllReadyH.nil
      have HK2 := Lib.hid hK
      clear hK
      try rw [if_pos (by rfl)]
      go_simp
      refine (HM1.out _ HWv3.out).mono ?_
      rintro en v4 ⟨rfl, hb⟩
      have HXv4 := Lib.hid ((hb.block _ (lt_of_block HXv3.out)).trans HXv3.out)
      have HDv4 := Lib.hid ((hb.block _ (lt_of_block HDv3.out)).trans HDv3.out)
      have HWv4 := Lib.hid (below_then HWv3.out hb HWv3.out.size)
      have HTv4 := Lib.hid (HTv3.out.below hb)
      clear hb
      refine HK2.out _ _ ⟨HXv4.out, HDv4.out⟩ (fun hHeld => ?_)
      clear HK2
      try simp only [Act.put, List.getElem_toArray, List.getElem_cons_succ, List.getElem_cons_zero, List.setIfInBounds_toArray, List.set_cons_zero, List.set_cons_succ]
      clear K
      refine wpAnyH_take (i := 17) (v := .bool false) rfl (by kernel_rfl) (by kernel_rfl) (by kernel_rfl) (fun _ _ _ h => h) (Or.inl ⟨by rfl, ?_⟩) (by assumption) ?_
      · intro w' hSw
        first | (go_simp; done) | (go_simp; intro h0; omega) | rfl
      try simp only [Act.put, List.getElem_toArray, List.getElem_cons_succ, List.getElem_cons_zero, List.setIfInBounds_toArray, List.set_cons_zero, List.set_cons_succ]
      refine wpAnyH_take (i := 18) (v := .bool false) rfl (by kernel_rfl) (by kernel_rfl) (by kernel_rfl) (fun _ _ _ h => h) (Or.inl ⟨by rfl, ?_⟩) (by assumption) ?_
      · intro w' hSw
        first | (go_simp; done) | (go_simp; intro h0; omega) | rfl
      try simp only [Act.put, List.getElem_toArray, List.getElem_cons_succ, List.getElem_cons_zero, List.setIfInBounds_toArray, List.set_cons_zero, List.set_cons_succ]
      refine wpAnyH_take (i := 19) (v := .agg #[.int .u8 k, .int .i64 0, .slice q1 bl d1]) rfl (by kernel_rfl) (by kernel_rfl) (by kernel_rfl) (fun _ _ _ h => h) (Or.inl ⟨by rfl, ?_⟩) (by assumption) ?_
      · intro w' hSw
        obtain ⟨⟨x0, x1, x2⟩, -⟩ := Types.cells3 hSw.2
        first | (go_simp; done) | (go_simp; intro h0; omega) | rfl
      try simp only [Act.put, List.getElem_toArray, List.getElem_cons_succ, List.getElem_cons_zero, List.setIfInBounds_toArray, List.set_cons_zero, List.set_cons_succ]
      refine wpAnyH_ready (rs := [20]) (by kernel_rfl) (by simp) ?_
      refine AllReadyH.cons rfl (fun K hK => ?_) AllReadyH.nil
      have HK2 := Lib.hid hK
      clear hK
      try rw [if_pos (by rfl)]
      go_simp
      refine (HRM.out _ _ _ HTv4.out).mono ?_
      rintro en v5 ⟨rfl, hb⟩
      have HXv5 := Lib.hid ((hb.block _ (lt_of_block HXv4.out)).trans HXv4.out)
      have HDv5 := Lib.hid ((hb.block _ (lt_of_block HDv4.out)).trans HDv4.out)
      have HWv5 := Lib.hid (below_then HWv4.out hb HWv4.out.size)
      have HTv5 := Lib.hid (HTv4.out.below hb)
      clear hb
      refine HK2.out _ _ ⟨HXv5.out, HDv5.out⟩ (fun hHeld => ?_)
      clear HK2
      try simp only [Act.put, List.getElem_toArray, List.getElem_cons_succ, List.getElem_cons_zero, List.setIfInBounds_toArray, List.set_cons_zero, List.set_cons_succ]
      clear K
      refine wpAnyH_take (i := 21) (v := .bool true) rfl (by kernel_rfl) (by kernel_rfl) (by kernel_rfl) (fun _ _ _ h => h) (Or.inl ⟨by rfl, ?_⟩) (by assumption) ?_
      · intro w' hSw
        first | (go_simp; done) | (go_simp; intro h0; omega) | rfl
      try simp only [Act.put, List.getElem_toArray, List.getElem_cons_succ, List.getElem_cons_zero, List.setIfInBounds_toArray, List.set_cons_zero, List.set_cons_succ]
      refine wpAnyH_take (i := 22) (v := .bool true) rfl (by kernel_rfl) (by kernel_rfl) (by kernel_rfl) (fun _ _ _ h => h) (Or.inl ⟨by rfl, ?_⟩) (by assumption) ?_
      · intro w' hSw
        first | (go_simp; done) | (go_simp; intro h0; omega) | rfl
      try simp only [Act.put, List.getElem_toArray, List.getElem_cons_succ, List.getElem_cons_zero, List.setIfInBounds_toArray, List.set_cons_zero, List.set_cons_succ]
      refine wpAnyH_take (i := 23) (v := .bool true) rfl (by kernel_rfl) (by kernel_rfl) (by kernel_rfl) (fun _ _ _ h => h) (Or.inl ⟨by rfl, ?_⟩) (by assumption) ?_
      · intro w' hSw
        first | (go_simp; done) | (go_simp; intro h0; omega) | rfl
      try simp only [Act.put, List.getElem_toArray, List.getElem_cons_succ, List.getElem_cons_zero, List.setIfInBounds_toArray, List.set_cons_zero, List.set_cons_succ]
      refine wpAnyH_take (i := 24) (v := .agg #[.int .u8 k, .int .i64 v, .slice pe ne ce, .slice p l c]) rfl (by kernel_rfl) (by kernel_rfl) (by kernel_rfl) (fun _ _ _ h => h) (Or.inl ⟨by rfl, ?_⟩) (by assumption) ?_
      · intro w' hSw
        obtain ⟨⟨y0, y1, y2, y3⟩, -⟩ := cells4 hSw.1
        first | (go_simp; done) | (go_simp; intro h0; omega) | rfl
      try simp only [Act.put, List.getElem_toArray, List.getElem_cons_succ, List.getElem_cons_zero, List.setIfInBounds_toArray, List.set_cons_zero, List.set_cons_succ]
      refine wpAnyH_take (i := 25) (v := .slice af nf cf) rfl (by kernel_rfl) (by kernel_rfl) (by kernel_rfl) (fun _ _ _ h => h) (Or.inl ⟨by rfl, ?_⟩) (by assumption) ?_
      · intro w' hSw
        first | (go_simp; done) | (go_simp; intro h0; omega) | rfl
      try simp only [Act.put, List.getElem_toArray, List.getElem_cons_succ, List.getElem_cons_zero, List.setIfInBounds_toArray, List.set_cons_zero, List.set_cons_succ]
      refine wpAnyH_take (i := 26) (v := .slice at_ nt ct) rfl (by kernel_rfl) (by kernel_rfl) (by kernel_rfl) (fun _ _ _ h => h) (Or.inl ⟨by rfl, ?_⟩) (by assumption) ?_
      · intro w' hSw
        first | (go_simp; done) | (go_simp; intro h0; omega) | rfl
      try simp only [Act.put, List.getElem_toArray, List.getElem_cons_succ, List.getElem_cons_zero, List.setIfInBounds_toArray, List.set_cons_zero, List.set_cons_succ]
      refine wpAnyH_take (i := 29) (v := .agg #[.int .u8 k, .int .i64 0, .slice q1 bl d1]) rfl (by kernel_rfl) (by kernel_rfl) (by kernel_rfl) (fun _ _ _ h => h) (Or.inl ⟨by rfl, ?_⟩) (by assumption) ?_
      · intro w' hSw
        obtain ⟨⟨x0, x1, x2⟩, -⟩ := Types.cells3 hSw.2
        first | (go_simp; done) | (go_simp; intro h0; omega) | rfl
      try simp only [Act.put, List.getElem_toArray, List.getElem_cons_succ, List.getElem_cons_zero, List.setIfInBounds_toArray, List.set_cons_zero, List.set_cons_succ]
      refine wpAnyH_ready (rs := [27]) (by kernel_rfl) (by simp) ?_
      refine AllReadyH.cons rfl (fun K hK => ?_) AllReadyH.nil
      have HK2 := Lib.hid hK
      clear hK
      try rw [if_pos (by rfl)]
      go_simp
      refine (HSW.out _ HWv5.out).mono ?_
      rintro en v6 ⟨qe2, ce2, q2, c2, rfl, hT2, hb⟩
      have HXv6 := Lib.hid ((hb.block _ (lt_of_block HXv5.out)).trans HXv5.out)
      have HDv6 := Lib.hid ((hb.block _ (lt_of_block HDv5.out)).trans HDv5.out)
      have HWv6 := Lib.hid (below_then HWv5.out hb HWv5.out.size)
      have HTv6 := Lib.hid (HTv5.out.below hb)
      have HT2 := Lib.hid (hT2.reads' (Types.veil_reads _ _))
      clear hT2
      clear hb
      refine HK2.out _ _ ⟨HXv6.out, HDv6.out⟩ (fun hHeld => ?_)
      clear HK2
      try simp only [Act.put, List.getElem_toArray, List.getElem_cons_succ, List.getElem_cons_zero, List.setIfInBounds_toArray, List.set_cons_zero, List.set_cons_succ]
      clear K
      refine wpAnyH_ready (rs := [28]) (by kernel_rfl) (by simp) ?_
      refine AllReadyH.cons rfl (fun K hK => ?_) AllReadyH.nil
      have HK2 := Lib.hid hK
      clear hK
      try rw [if_pos (by rfl)]
      go_simp
      refine (HB2.out _ _ _ _ _ HT2.out).mono ?_
      rintro en v7 ⟨q3, d3, rfl, hT3, hb⟩
      have HXv7 := Lib.hid ((hb.block _ (lt_of_block HXv6.out)).trans HXv6.out)
      have HDv7 := Lib.hid ((hb.block _ (lt_of_block HDv6.out)).trans HDv6.out)
      have HWv7 := Lib.hid (below_then HWv6.out hb HWv6.out.size)
      have HTv7 := Lib.hid (HTv6.out.below hb)
      have HT3 := Lib.hid (bare_ty hT3)
      clear hT3
      clear hb
      refine HK2.out _ _ ⟨HXv7.out, HDv7.out⟩ (fun hHeld => ?_)
      clear HK2
      try simp only [Act.put, List.getElem_toArray, List.getElem_cons_succ, List.getElem_cons_zero, List.setIfInBounds_toArray, List.set_cons_zero, List.set_cons_succ]
      clear K
      refine wpAnyH_ready (rs := [30]) (by kernel_rfl) (by simp) ?_
      refine AllReadyH.cons rfl (fun K hK => ?_) AllReadyH.nil
      have HK2 := Lib.hid hK
      clear hK
      try rw [if_pos (by rfl)]
      go_simp
      refine (HSM.out _ _ _ _ _ HT3.out HTv7.out).mono ?_
      rintro en v8 ⟨rfl, hb⟩
      have HXv8 := Lib.hid ((hb.block _ (lt_of_block HXv7.out)).trans HXv7.out)
      have HDv8 := Lib.hid ((hb.block _ (lt_of_block HDv7.out)).trans HDv7.out)
      have HWv8 := Lib.hid (below_then HWv7.out hb HWv7.out.size)
      have HTv8 := Lib.hid (HTv7.out.below hb)
      clear hb
      refine HK2.out _ _ ⟨HXv8.out, HDv8.out⟩ (fun hHeld => ?_)
      clear HK2
      try simp only [Act.put, List.getElem_toArray, List.getElem_cons_succ, List.getElem_cons_zero, List.setIfInBounds_toArray, List.set_cons_zero, List.set_cons_succ]
      clear K
      refine wpAnyH_take (i := 31) (v := .bool true) rfl (by kernel_rfl) (by kernel_rfl) (by kernel_rfl) (fun _ _ _ h => h) (Or.inl ⟨by rfl, ?_⟩) (by assumption) ?_
      · intro w' hSw
        first | (go_simp; done) | (go_simp; intro h0; omega) | rfl
      try simp only [Act.put, List.getElem_toArray, List.getElem_cons_succ, List.getElem_cons_zero, List.setIfInBounds_toArray, List.set_cons_zero, List.set_cons_succ]
      refine wpAnyH_take (i := 32) (v := .bool true) rfl (by kernel_rfl) (by kernel_rfl) (by kernel_rfl) (fun _ _ _ h => h) (Or.inl ⟨by rfl, ?_⟩) (by assumption) ?_
      · intro w' hSw
        first | (go_simp; done) | (go_simp; intro h0; omega) | rfl
      try simp only [Act.put, List.getElem_toArray, List.getElem_cons_succ, List.getElem_cons_zero, List.setIfInBounds_toArray, List.set_cons_zero, List.set_cons_succ]
      refine wpAnyH_ready (rs := [33]) (by kernel_rfl) (by simp) ?_
      refine AllReadyH.cons rfl (fun K hK => ?_) AllReadyH.nil
      have HK2 := Lib.hid hK
      clear hK
      try rw [if_pos (by rfl)]
      go_simp
      refine (HAW.out _ HWv8.out).mono ?_
      rintro en v9 ⟨rfl, hb⟩
      have HXv9 := Lib.hid ((hb.block _ (lt_of_block HXv8.out)).trans HXv8.out)
      have HDv9 := Lib.hid ((hb.block _ (lt_of_block HDv8.out)).trans HDv8.out)
      have HWv9 := Lib.hid (below_then HWv8.out hb HWv8.out.size)
      have HTv9 := Lib.hid (HTv8.out.below hb)
      clear hb
      refine HK2.out _ _ ⟨HXv9.out, HDv9.out⟩ (fun hHeld => ?_)
      clear HK2
      try simp only [Act.put, List.getElem_toArray, List.getElem_cons_succ, List.getElem_cons_zero, List.setIfInBounds_toArray, List.set_cons_zero, List.set_cons_succ]
      clear K
      refine wpAnyH_take (i := 34) (v := .bool true) rfl (by kernel_rfl) (by kernel_rfl) (by kernel_rfl) (fun _ _ _ h => h) (Or.inl ⟨by rfl, ?_⟩) (by assumption) ?_
      · intro w' hSw
        first | (go_simp; done) | (go_simp; intro h0; omega) | rfl
      try simp only [Act.put, List.getElem_toArray, List.getElem_cons_succ, List.getElem_cons_zero, List.setIfInBounds_toArray, List.set_cons_zero, List.set_cons_succ]
      refine wpAnyH_take (i := 35) (v := .bool true) rfl (by kernel_rfl) (by kernel_rfl) (by kernel_rfl) (fun _ _ _ h => h) (Or.inl ⟨by rfl, ?_⟩) (by assumption) ?_
      · intro w' hSw
        first | (go_simp; done) | (go_simp; intro h0; omega) | rfl
      try simp only [Act.put, List.getElem_toArray, List.getElem_cons_succ, List.getElem_cons_zero, List.setIfInBounds_toArray, List.set_cons_zero, List.set_cons_succ]
      refine wpAnyH_done (by kernel_rfl) ?_ _
      clear hHeld
      go_wp2_with (fail)
      go_ret
      exact ⟨rfl, HWv9.out⟩
end Rt
end Go.Proofs.YtabegjpledammaaGreatDoor
