/-The walk of RtypeIs. (Written by wip/tools/rtlaws.py.) Within and Same of the program. The document's: is one within another one. The walk of EffectWithin. -/
import Derived.Test.YtabegjpledammaaGreatDoorGC13
import Derived.Test.YtabegjpledammaaGreatDoorGC14
import Derived.Test.YtabegjpledammaaGreatDoorGC15
import Derived.Test.YtabegjpledammaaGreatDoorGC16
import Derived.Test.YtabegjpledammaaGreatDoorGC03
import Derived.Test.YtabegjpledammaaGreatDoorGC05
import Derived.Test.YtabegjpledammaaGreatDoorGC04
namespace Go.Proofs.YtabegjpledammaaGreatDoor
open Go.RowKit
set_option linter.unusedVariables false
set_option linter.unusedSimpArgs false
namespace Rt
open Effect (At AtOk AtsAt Rd ofA ret_i64 ret_bool lt_of_block heap_alloc_new NumLaid)
open Types (jb veil_reads)

theorem one_slice {w : World} {h : Hd} {pe : Option Addr} {ne ce : Nat} {p : Option Addr} {l c : Nat} {t : RT} (hT : RtIs w h pe ne ce p l c t) (hef : allT (effB 100000) t = true) (W : World) (hb : Below w.heap.size w W) :
    Calls Tryz.prog 11 #[.slice (some ⟨W.heap.size, 0, none⟩) 1 1] (W.alloc (.cells #[.int .u8 h.k, .int .i64 h.r, .slice pe ne ce, .slice p l c] 25)) fun e w' => e = .returned (.bool (mayT t)) ∧ Below W.heap.size W w' := by
  have h1 := may_walk [t] (some ⟨W.heap.size, 0, none⟩) 1 1 (W.alloc (.cells #[.int .u8 h.k, .int .i64 h.r, .slice pe ne ce, .slice p l c] 25)) rfl one_le (kids_one (hT.below hb) 25 _ rfl) (by rw [allK_one]; exact hef)
  refine h1.mono ?_
  rintro e w' ⟨rfl, h2⟩
  exact ⟨by rw [show mayK [t] = mayT t from allK_one _ t], (box_new _).trans (h2.mono (by simp))⟩
theorem one_size {w : World} {h : Hd} {pe : Option Addr} {ne ce : Nat} {p : Option Addr} {l c : Nat} {t : RT} (hT : RtIs w h pe ne ce p l c t) (hw : wt t ≤ 1000000) (W : World) (hb : Below w.heap.size w W) :
    Calls Tryz.prog 12 #[.slice (some ⟨W.heap.size, 0, none⟩) 1 1] (W.alloc (.cells #[.int .u8 h.k, .int .i64 h.r, .slice pe ne ce, .slice p l c] 25)) fun e w' => e = .returned (.int .i64 (wt t : Nat)) ∧ Below W.heap.size W w' := by
  have hw1 : wts [t] = wt t := by rw [wts_cons, wts_nil]; omega
  have h1 := size_walk [t] (some ⟨W.heap.size, 0, none⟩) 1 1 (W.alloc (.cells #[.int .u8 h.k, .int .i64 h.r, .slice pe ne ce, .slice p l c] 25)) rfl one_le (kids_one (hT.below hb) 25 _ rfl) (by rw [hw1]; exact hw)
  refine h1.mono ?_
  rintro e w' ⟨rfl, h2⟩
  exact ⟨by rw [hw1], (box_new _).trans (h2.mono (by simp))⟩
theorem bare_ty {k : Int} {us : List Types.Ty} {w w' : World} {q : Option Addr} {c : Nat} (h : Types.TyIs (Types.veil (Types.from_ w.heap.size) w') ⟨k, 0⟩ q us.length c (.node ⟨k, 0⟩ us)) : Types.TyIs w' ⟨k, 0⟩ q us.length c (.node ⟨k, 0⟩ us) := h.reads' (veil_reads _ _)
set_option maxRecDepth 100000 in
set_option maxHeartbeats 12800000 in
theorem rtypeIs_walk (h : Hd) (pe : Option Addr) (ne ce : Nat) (p : Option Addr) (l c : Nat) (t : RT) (w : World) (hT : RtIs w h pe ne ce p l c t) (hl : NumLaid w) :
    Calls Tryz.prog 3 #[.agg #[.int .u8 h.k, .int .i64 h.r, .slice pe ne ce, .slice p l c]] w fun e w' => e = .returned (.bool true) ∧ Below w.heap.size w w' := by
  have hg1 := fun W (hb : Below w.heap.size w W) => great_walk t h pe ne ce p l c W (hT.below hb)
  have haw := fun W (hb : Below w.heap.size w W) => awake_walk W (hl.below hb)
  have HG1 := Lib.hid hg1; have HAW := Lib.hid haw; have HT := Lib.hid hT; have HL := Lib.hid hl
  clear hg1 haw hT hl
  obtain ⟨k, v, e⟩ := h
  have HXb := Lib.hid (show (w.alloc (.cells #[.int .u8 k, .int .i64 v, .slice pe ne ce, .slice p l c] 25)).heap[w.heap.size]? = some (.cells #[.int .u8 k, .int .i64 v, .slice pe ne ce, .slice p l c] 25 (0, 0)) from heap_alloc_new w _)
  have HWb := Lib.hid (show Below w.heap.size w (w.alloc (.cells #[.int .u8 k, .int .i64 v, .slice pe ne ce, .slice p l c] 25)) from box_new _)
  cases hgt : greatT t
  · have hst := small_eff hgt
    have ht5 := eff_more (m := 100000) (by omega) hst.2
    have hwt := hst.1
    have hmay := fun W (hb : Below w.heap.size w W) => refMay_walk (wt t) t ⟨k, v, e⟩ pe ne ce p l c W (Nat.le_refl _) (HT.out.below hb) ht5
    have hsz : mayT t = true → (jb (wordsT t)).size ≤ 100000000 := fun hm => by
      have h1 := text_size HT.out hm (by omega) hst.2
      have h2 : (1007 * 100 + 21) * (8 * wt t) ≤ (1007 * 100 + 21) * (8 * 100) := Nat.mul_le_mul_left _ (by omega)
      omega
    have htx := fun W (hb : Below w.heap.size w W) => text_walk t ⟨k, v, e⟩ pe ne ce p l c W (HT.out.below hb) (by omega) (eff_more (by omega) hst.2) hsz (HL.out.below hb)
    have hm1 := fun W (hb : Below w.heap.size w W) => one_slice HT.out ht5 W hb
    have hs1 := fun W (hb : Below w.heap.size w W) => one_size HT.out (by omega) W hb
    have hs2 := fun W (hb : Below w.heap.size w W) => refSize_walk (wt t) t ⟨k, v, e⟩ pe ne ce p l c W (Nat.le_refl _) (by omega) (HT.out.below hb)
    have hb1 := fun W (hb : Below w.heap.size w W) => bare_walk (wt t) t ⟨k, v, e⟩ pe ne ce p l c W (Nat.le_refl _) (by omega) (HT.out.below hb)
    have hb2 := fun W (hb : Below w.heap.size w W) => refBare_walk (wt t) t ⟨k, v, e⟩ pe ne ce p l c W (Nat.le_refl _) (by omega) (HT.out.below hb)
    have hsm := fun (W : World) (q q' : Option Addr) (c c' : Nat) (h1 : Types.TyIs W ⟨k, 0⟩ q (bareK t.ks).length c (.node ⟨k, 0⟩ (bareK t.ks))) (h2 : Types.TyIs W ⟨k, 0⟩ q' (bareK t.ks).length c' (.node ⟨k, 0⟩ (bareK t.ks))) => Types.refSame_walk _ _ _ ⟨k, 0⟩ ⟨k, 0⟩ q q' _ c _ c' W (Nat.le_refl _) h1 h2
    rw [Types.same_self] at hsm
    have hrt := fun (hm : mayT t = true) W (hb : Below w.heap.size w W) => refText_all w (wt t) t ⟨k, v, e⟩ pe ne ce p l c W (Nat.le_refl _) hm (eff_more (by omega) hst.2) (hsz hm) HT.out hb
    simp only at hm1 hs1
    have HMAY := Lib.hid hmay; have HTX := Lib.hid htx; have HM1 := Lib.hid hm1; have HS1 := Lib.hid hs1; have HS2 := Lib.hid hs2; have HBA := Lib.hid hb1; have HBB := Lib.hid hb2; have HSM := Lib.hid hsm; have HRT := Lib.hid hrt; have HGT := Lib.hid hgt
    clear hst ht5 hwt hmay htx hm1 hs1 hs2 hb1 hb2 hsm hrt hgt hsz HT
    obtain ⟨mb, hmb⟩ : ∃ mb, mayT t = mb := ⟨_, rfl⟩
    have htn : mb = false → textS t = ⟨#[]⟩ ∧ errE t = 1 := fun e => text_no (hmb.trans e)
    have hty : mb = true → textS t = jb (wordsT t) ∧ errE t = 0 := fun e => text_yes (hmb.trans e)
    rw [hmb] at HMAY HM1 HRT
    have HTN := Lib.hid htn; have HTY := Lib.hid hty
    clear hmb htn hty
    obtain ⟨st, hst⟩ : ∃ st, textS t = st := ⟨_, rfl⟩
    obtain ⟨er, her⟩ : ∃ er, errE t = er := ⟨_, rfl⟩
    have HTX2 := Lib.hid (fun W (hb : Below w.heap.size w W) => (show Calls _ _ _ _ fun e w' => e = .returned (.tuple #[.string st, .int .i64 er]) ∧ Below W.heap.size W w' from by have := HTX.out W hb; unfold TextEnd at this; rw [hst, her] at this; exact this))
    rw [hst, her] at HTN HTY
    clear hst her HTX
    generalize jb (wordsT t) = jw at *
    generalize wt t = wn at *
    go_enter Tryz.func3, Tryz.ntmps3
    go_wp2_with (fail)
    refine (HG1.out _ HWb.out).mono ?_
    rintro en w1 ⟨rfl, hb⟩
    have HXw1 := Lib.hid ((hb.block _ (lt_of_block HXb.out)).trans HXb.out)
    have HWw1 := Lib.hid (below_then HWb.out hb HWb.out.size)
    clear hb
    obtain ⟨⟨c0, c1, c2, c3⟩, -⟩ := cells4 HXw1.out
    rw [HGT.out]
    go_wp2_with (fail)
    refine (HMAY.out _ HWw1.out).mono ?_
    rintro en w2 ⟨rfl, hb⟩
    clear c0 c1 c2 c3
    have HXw2 := Lib.hid ((hb.block _ (lt_of_block HXw1.out)).trans HXw1.out)
    have HWw2 := Lib.hid (below_then HWw1.out hb HWw1.out.size)
    clear hb
    obtain ⟨⟨c0, c1, c2, c3⟩, -⟩ := cells4 HXw2.out
    go_wp2_with (fail)
    refine (HTX2.out _ HWw2.out).mono ?_
    rintro en w3 ⟨rfl, hb⟩
    clear c0 c1 c2 c3
    have HXw3 := Lib.hid ((hb.block _ (lt_of_block HXw2.out)).trans HXw2.out)
    have HWw3 := Lib.hid (below_then HWw2.out hb HWw2.out.size)
    clear hb
    obtain ⟨⟨c0, c1, c2, c3⟩, -⟩ := cells4 HXw3.out
    go_upto_region 5 with (fail)
    clear c0 c1 c2 c3
    have HXv0 := Lib.hid (show w3.drew.heap[w.heap.size]? = some (.cells #[.int .u8 k, .int .i64 v, .slice pe ne ce, .slice p l c] 25 (0, 0)) from HXw3.out)
    have HWv0 := Lib.hid (HWw3.out.drew)
    refine wp_region_held_drew (S := fun (V : World) => V.heap[w.heap.size]? = some (.cells #[.int .u8 k, .int .i64 v, .slice pe ne ce, .slice p l c] 25 (0, 0)) ∧ True) (by kernel_rfl) ⟨HXw3.out, trivial⟩ (fun hHeld => ?_)
    generalize w3.drew = v0 at *
    refine wpAnyH_take (i := 0) (v := .agg #[.int .u8 k, .int .i64 v, .slice pe ne ce, .slice p l c]) rfl (by kernel_rfl) (by kernel_rfl) (by kernel_rfl) (fun _ _ _ h => h) (Or.inl ⟨by rfl, ?_⟩) (by assumption) ?_
    · intro w' hSw
      obtain ⟨⟨y0, y1, y2, y3⟩, -⟩ := cells4 hSw.1
      first | (go_simp; done) | (go_simp; intro h0; omega) | rfl
    try simp only [Act.put, List.getElem_toArray, List.getElem_cons_succ, List.getElem_cons_zero, List.setIfInBounds_toArray, List.set_cons_zero, List.set_cons_succ]
    refine wpAnyH_take (i := 3) (v := .bool mb) rfl (by kernel_rfl) (by kernel_rfl) (by kernel_rfl) (fun _ _ _ h => h) (Or.inl ⟨by rfl, ?_⟩) (by assumption) ?_
    · intro w' hSw
      first | (go_simp; done) | (go_simp; intro h0; omega) | rfl
    try simp only [Act.put, List.getElem_toArray, List.getElem_cons_succ, List.getElem_cons_zero, List.setIfInBounds_toArray, List.set_cons_zero, List.set_cons_succ]
    have HXs1 := Lib.hid (((box_new (w := v0) (.cells #[.int .u8 k, .int .i64 v, .slice pe ne ce, .slice p l c] 25)).block _ (lt_of_block HXv0.out)).trans HXv0.out)
    refine wpAnyH_ready (rs := [1]) (by kernel_rfl) (by simp) ?_
    refine AllReadyH.cons rfl (fun K hK => ?_) AllReadyH.nil
    have HK2 := Lib.hid hK
    clear hK
    try rw [if_pos (by rfl)]
    go_simp
    refine HK2.out _ _ ⟨HXs1.out, trivial⟩ (fun hHeld => ?_)
    clear HK2
    try simp only [Act.put, List.getElem_toArray, List.getElem_cons_succ, List.getElem_cons_zero, List.setIfInBounds_toArray, List.set_cons_zero, List.set_cons_succ]
    clear K
    refine wpAnyH_ready (rs := [2]) (by kernel_rfl) (by simp) ?_
    refine AllReadyH.cons rfl (fun K hK => ?_) AllReadyH.nil
    have HK2 := Lib.hid hK
    clear hK
    try rw [if_pos (by rfl)]
    go_simp
    refine (HM1.out _ HWv0.out).mono ?_
    rintro en v1 ⟨rfl, hb⟩
    have HXv1 := Lib.hid ((hb.block _ (lt_of_block HXv0.out)).trans HXv0.out)
    have HWv1 := Lib.hid (below_then HWv0.out hb HWv0.out.size)
    clear hb
    refine HK2.out _ _ ⟨HXv1.out, trivial⟩ (fun hHeld => ?_)
    clear HK2
    try simp only [Act.put, List.getElem_toArray, List.getElem_cons_succ, List.getElem_cons_zero, List.setIfInBounds_toArray, List.set_cons_zero, List.set_cons_succ]
    clear K
    refine wpAnyH_take (i := 4) (v := .bool false) rfl (by kernel_rfl) (by kernel_rfl) (by kernel_rfl) (fun _ _ _ h => h) (Or.inl ⟨by rfl, ?_⟩) (by assumption) ?_
    · intro w' hSw
      first | (go_simp; done) | (go_simp; intro h0; omega) | rfl
    try simp only [Act.put, List.getElem_toArray, List.getElem_cons_succ, List.getElem_cons_zero, List.setIfInBounds_toArray, List.set_cons_zero, List.set_cons_succ]
    refine wpAnyH_take (i := 5) (v := .bool false) rfl (by kernel_rfl) (by kernel_rfl) (by kernel_rfl) (fun _ _ _ h => h) (Or.inl ⟨by rfl, ?_⟩) (by assumption) ?_
    · intro w' hSw
      first | (go_simp; done) | (go_simp; intro h0; omega) | rfl
    try simp only [Act.put, List.getElem_toArray, List.getElem_cons_succ, List.getElem_cons_zero, List.setIfInBounds_toArray, List.set_cons_zero, List.set_cons_succ]
    refine wpAnyH_take (i := 6) (v := .agg #[.int .u8 k, .int .i64 v, .slice pe ne ce, .slice p l c]) rfl (by kernel_rfl) (by kernel_rfl) (by kernel_rfl) (fun _ _ _ h => h) (Or.inl ⟨by rfl, ?_⟩) (by assumption) ?_
    · intro w' hSw
      obtain ⟨⟨y0, y1, y2, y3⟩, -⟩ := cells4 hSw.1
      first | (go_simp; done) | (go_simp; intro h0; omega) | rfl
    try simp only [Act.put, List.getElem_toArray, List.getElem_cons_succ, List.getElem_cons_zero, List.setIfInBounds_toArray, List.set_cons_zero, List.set_cons_succ]
    refine wpAnyH_take (i := 9) (v := .agg #[.int .u8 k, .int .i64 v, .slice pe ne ce, .slice p l c]) rfl (by kernel_rfl) (by kernel_rfl) (by kernel_rfl) (fun _ _ _ h => h) (Or.inl ⟨by rfl, ?_⟩) (by assumption) ?_
    · intro w' hSw
      obtain ⟨⟨y0, y1, y2, y3⟩, -⟩ := cells4 hSw.1
      first | (go_simp; done) | (go_simp; intro h0; omega) | rfl
    try simp only [Act.put, List.getElem_toArray, List.getElem_cons_succ, List.getElem_cons_zero, List.setIfInBounds_toArray, List.set_cons_zero, List.set_cons_succ]
    have HXs7 := Lib.hid (((box_new (w := v1) (.cells #[.int .u8 k, .int .i64 v, .slice pe ne ce, .slice p l c] 25)).block _ (lt_of_block HXv1.out)).trans HXv1.out)
    refine wpAnyH_ready (rs := [7]) (by kernel_rfl) (by simp) ?_
    refine AllReadyH.cons rfl (fun K hK => ?_) AllReadyH.nil
    have HK2 := Lib.hid hK
    clear hK
    try rw [if_pos (by rfl)]
    go_simp
    refine HK2.out _ _ ⟨HXs7.out, trivial⟩ (fun hHeld => ?_)
    clear HK2
    try simp only [Act.put, List.getElem_toArray, List.getElem_cons_succ, List.getElem_cons_zero, List.setIfInBounds_toArray, List.set_cons_zero, List.set_cons_succ]
    clear K
    refine wpAnyH_ready (rs := [8]) (by kernel_rfl) (by simp) ?_
    refine AllReadyH.cons rfl (fun K hK => ?_) AllReadyH.nil
    have HK2 := Lib.hid hK
    clear hK
    try rw [if_pos (by rfl)]
    go_simp
    refine (HS1.out _ HWv1.out).mono ?_
    rintro en v2 ⟨rfl, hb⟩
    have HXv2 := Lib.hid ((hb.block _ (lt_of_block HXv1.out)).trans HXv1.out)
    have HWv2 := Lib.hid (below_then HWv1.out hb HWv1.out.size)
    clear hb
    refine HK2.out _ _ ⟨HXv2.out, trivial⟩ (fun hHeld => ?_)
    clear HK2
    try simp only [Act.put, List.getElem_toArray, List.getElem_cons_succ, List.getElem_cons_zero, List.setIfInBounds_toArray, List.set_cons_zero, List.set_cons_succ]
    clear K
    refine wpAnyH_ready (rs := [10]) (by kernel_rfl) (by simp) ?_
    refine AllReadyH.cons rfl (fun K hK => ?_) AllReadyH.nil
    have HK2 := Lib.hid hK
    clear hK
    try rw [if_pos (by rfl)]
    go_simp
    refine (HS2.out _ HWv2.out).mono ?_
    rintro en v3 ⟨rfl, hb⟩
    have HXv3 := Lib.hid ((hb.block _ (lt_of_block HXv2.out)).trans HXv2.out)
    have HWv3 := Lib.hid (below_then HWv2.out hb HWv2.out.size)
    clear hb
    refine HK2.out _ _ ⟨HXv3.out, trivial⟩ (fun hHeld => ?_)
    clear HK2
    try simp only [Act.put, List.getElem_toArray, List.getElem_cons_succ, List.getElem_cons_zero, List.setIfInBounds_toArray, List.set_cons_zero, List.set_cons_succ]
    clear K
    refine wpAnyH_take (i := 11) (v := .bool false) rfl (by kernel_rfl) (by kernel_rfl) (by kernel_rfl) (fun _ _ _ h => h) (Or.inl ⟨by rfl, ?_⟩) (by assumption) ?_
    · intro w' hSw
      first | (go_simp; done) | (go_simp; intro h0; omega) | rfl
    try simp only [Act.put, List.getElem_toArray, List.getElem_cons_succ, List.getElem_cons_zero, List.setIfInBounds_toArray, List.set_cons_zero, List.set_cons_succ]
    refine wpAnyH_take (i := 12) (v := .bool false) rfl (by kernel_rfl) (by kernel_rfl) (by kernel_rfl) (fun _ _ _ h => h) (Or.inl ⟨by rfl, ?_⟩) (by assumption) ?_
    · intro w' hSw
      first | (go_simp; done) | (go_simp; intro h0; omega) | rfl
    try simp only [Act.put, List.getElem_toArray, List.getElem_cons_succ, List.getElem_cons_zero, List.setIfInBounds_toArray, List.set_cons_zero, List.set_cons_succ]
    refine wpAnyH_take (i := 13) (v := .bool false) rfl (by kernel_rfl) (by kernel_rfl) (by kernel_rfl) (fun _ _ _ h => h) (Or.inl ⟨by rfl, ?_⟩) (by assumption) ?_
    · intro w' hSw
      first | (go_simp; done) | (go_simp; intro h0; omega) | rfl
    try simp only [Act.put, List.getElem_toArray, List.getElem_cons_succ, List.getElem_cons_zero, List.setIfInBounds_toArray, List.set_cons_zero, List.set_cons_succ]
    refine wpAnyH_take (i := 14) (v := .agg #[.int .u8 k, .int .i64 v, .slice pe ne ce, .slice p l c]) rfl (by kernel_rfl) (by kernel_rfl) (by kernel_rfl) (fun _ _ _ h => h) (Or.inl ⟨by rfl, ?_⟩) (by assumption) ?_
    · intro w' hSw
      obtain ⟨⟨y0, y1, y2, y3⟩, -⟩ := cells4 hSw.1
      first | (go_simp; done) | (go_simp; intro h0; omega) | rfl
    try simp only [Act.put, List.getElem_toArray, List.getElem_cons_succ, List.getElem_cons_zero, List.setIfInBounds_toArray, List.set_cons_zero, List.set_cons_succ]
    refine wpAnyH_take (i := 16) (v := .agg #[.int .u8 k, .int .i64 v, .slice pe ne ce, .slice p l c]) rfl (by kernel_rfl) (by kernel_rfl) (by kernel_rfl) (fun _ _ _ h => h) (Or.inl ⟨by rfl, ?_⟩) (by assumption) ?_
    · intro w' hSw
      obtain ⟨⟨y0, y1, y2, y3⟩, -⟩ := cells4 hSw.1
      first | (go_simp; done) | (go_simp; intro h0; omega) | rfl
    try simp only [Act.put, List.getElem_toArray, List.getElem_cons_succ, List.getElem_cons_zero, List.setIfInBounds_toArray, List.set_cons_zero, List.set_cons_succ]
    refine wpAnyH_ready (rs := [15]) (by kernel_rfl) (by simp) ?_
    refine AllReadyH.cons rfl (fun K hK => ?_) AllReadyH.nil
    have HK2 := Lib.hid hK
    clear hK
    try rw [if_pos (by rfl)]
    go_simp
    refine (HBA.out _ HWv3.out).mono ?_
    rintro en v4 ⟨q1, d1, rfl, hT1, hb⟩
    have HXv4 := Lib.hid ((hb.block _ (lt_of_block HXv3.out)).trans HXv3.out)
    have HWv4 := Lib.hid (below_then HWv3.out hb HWv3.out.size)
    have HT1 := Lib.hid (bare_ty hT1)
    clear hT1
    clear hb
    refine HK2.out _ _ ⟨HXv4.out, trivial⟩ (fun hHeld => ?_)
    clear HK2
    try simp only [Act.put, List.getElem_toArray, List.getElem_cons_succ, List.getElem_cons_zero, List.setIfInBounds_toArray, List.set_cons_zero, List.set_cons_succ]
    clear K
    refine wpAnyH_ready (rs := [17]) (by kernel_rfl) (by simp) ?_
    refine AllReadyH.cons rfl (fun K hK => ?_) AllReadyH.nil
    have HK2 := Lib.hid hK
    clear hK
    try rw [if_pos (by rfl)]
    go_simp
    refine (HBB.out _ HWv4.out).mono ?_
    rintro en v5 ⟨q2, d2, rfl, hT2, hb⟩
    have HXv5 := Lib.hid ((hb.block _ (lt_of_block HXv4.out)).trans HXv4.out)
    have HWv5 := Lib.hid (below_then HWv4.out hb HWv4.out.size)
    have HT2 := Lib.hid (bare_ty hT2)
    have HT1b := Lib.hid (HT1.out.below hb)
    clear hT2
    clear hb
    refine HK2.out _ _ ⟨HXv5.out, trivial⟩ (fun hHeld => ?_)
    clear HK2
    try simp only [Act.put, List.getElem_toArray, List.getElem_cons_succ, List.getElem_cons_zero, List.setIfInBounds_toArray, List.set_cons_zero, List.set_cons_succ]
    clear K
    refine wpAnyH_ready (rs := [18]) (by kernel_rfl) (by simp) ?_
    refine AllReadyH.cons rfl (fun K hK => ?_) AllReadyH.nil
    have HK2 := Lib.hid hK
    clear hK
    try rw [if_pos (by rfl)]
    go_simp
    refine (HSM.out _ _ _ _ _ HT1b.out HT2.out).mono ?_
    rintro en v6 ⟨rfl, hb⟩
    have HXv6 := Lib.hid ((hb.block _ (lt_of_block HXv5.out)).trans HXv5.out)
    have HWv6 := Lib.hid (below_then HWv5.out hb HWv5.out.size)
    clear hb
    refine HK2.out _ _ ⟨HXv6.out, trivial⟩ (fun hHeld => ?_)
    clear HK2
    try simp only [Act.put, List.getElem_toArray, List.getElem_cons_succ, List.getElem_cons_zero, List.setIfInBounds_toArray, List.set_cons_zero, List.set_cons_succ]
    clear K
    refine wpAnyH_take (i := 19) (v := .bool false) rfl (by kernel_rfl) (by kernel_rfl) (by kernel_rfl) (fun _ _ _ h => h) (Or.inl ⟨by rfl, ?_⟩) (by assumption) ?_
    · intro w' hSw
      first | (go_simp; done) | (go_simp; intro h0; omega) | rfl
    try simp only [Act.put, List.getElem_toArray, List.getElem_cons_succ, List.getElem_cons_zero, List.setIfInBounds_toArray, List.set_cons_zero, List.set_cons_succ]
    refine wpAnyH_take (i := 20) (v := .bool false) rfl (by kernel_rfl) (by kernel_rfl) (by kernel_rfl) (fun _ _ _ h => h) (Or.inl ⟨by rfl, ?_⟩) (by assumption) ?_
    · intro w' hSw
      first | (go_simp; done) | (go_simp; intro h0; omega) | rfl
    try simp only [Act.put, List.getElem_toArray, List.getElem_cons_succ, List.getElem_cons_zero, List.setIfInBounds_toArray, List.set_cons_zero, List.set_cons_succ]
    refine wpAnyH_done (by kernel_rfl) ?_ _
    clear hHeld
    obtain ⟨⟨c0, c1, c2, c3⟩, -⟩ := cells4 HXv6.out
    cases mb
    · obtain ⟨rfl, rfl⟩ := HTN.out rfl
      go_wp2_with (fail)
      refine (HAW.out _ HWv6.out).mono ?_
      rintro en w8 ⟨rfl, hb⟩
      have HW8 := Lib.hid (below_then HWv6.out hb HWv6.out.size)
      clear hb
      go_wp2_with (fail)
      go_ret
      exact ⟨rfl, HW8.out⟩
    · obtain ⟨rfl, rfl⟩ := HTY.out rfl
      go_wp2_with (fail)
      refine (HRT.out trivial _ HWv6.out).mono ?_
      rintro en w8 ⟨rfl, hb⟩
      have HW8 := Lib.hid (below_then HWv6.out hb HWv6.out.size)
      clear hb
      have hst := Effect.str_eq (rfl : st = st)
      go_wp2_with (fail)
      refine (HAW.out _ HW8.out).mono ?_
      rintro en w9 ⟨rfl, hb⟩
      have HW9 := Lib.hid (below_then HW8.out hb HW8.out.size)
      clear hb
      go_wp2_with (fail)
      go_ret
      exact ⟨rfl, HW9.out⟩
  · have HGT := Lib.hid hgt
    clear hgt HT
    go_enter Tryz.func3, Tryz.ntmps3
    go_wp2_with (fail)
    refine (HG1.out _ HWb.out).mono ?_
    rintro en w1 ⟨rfl, hb1⟩
    have HW1 := Lib.hid (below_then HWb.out hb1 HWb.out.size)
    clear hb1
    rw [HGT.out]
    go_wp2_with (fail)
    refine (HAW.out _ HW1.out).mono ?_
    rintro en w2 ⟨rfl, hb2⟩
    have HW2 := Lib.hid (below_then HW1.out hb2 HW1.out.size)
    clear hb2
    go_wp2_with (fail)
    go_ret
    exact ⟨rfl, HW2.out⟩
end Rt
end Go.Proofs.YtabegjpledammaaGreatDoor
namespace Go.Proofs.YtabegjpledammaaGreatDoor
open Go.RowKit Go.Sort Go.Shelf Go.Lib
set_option linter.unusedVariables false
set_option linter.unusedSimpArgs false
namespace Effect

set_option maxRecDepth 100000 in
set_option maxHeartbeats 6400000 in
theorem same_walk {n c m d : Nat} {a b : Option Addr} {l k : List At} {w : World} (h : Rd w n a l) (h2 : Rd w m b k) (hn : n ≤ 100000) (hm : m ≤ 100000) : Calls Tryz.prog 38 #[.slice a n c, .slice b m d] w fun e w' => e = .returned (.bool (decide (ofA l = ofA k))) ∧ Below w.heap.size w w' := by
  have H2 := Lib.hid h2; have HC := Lib.hid (ofR (c := c) h hn)
  clear h h2
  go_enter Tryz.func38, Tryz.ntmps38
  go_wp2_with (fail)
  refine HC.out.mono ?_
  rintro e w1 ⟨a1, m1, c1, rfl, hm1, -, hr1, hb1⟩
  have HR1 := Lib.hid hr1
  have HC2 := Lib.hid (ofR (c := d) (H2.out.below hb1) hm)
  have HB := Lib.hid hb1
  clear hr1 hb1
  go_wp2_with (fail)
  refine HC2.out.mono ?_
  rintro e w2 ⟨a2, m2, c2, rfl, hm2, -, hr2, hb2⟩
  have HE := Lib.hid (equalR (c := c1) (d := c2) (HR1.out.below hb2) hr2 (by omega) (by omega))
  have HB2 := Lib.hid (below_then HB.out hb2 HB.out.size)
  clear hr2 hb2
  go_wp2_with (fail)
  refine HE.out.mono ?_
  rintro e w3 ⟨rfl, hb3⟩
  have HB3 := Lib.hid (below_then HB2.out hb3 HB2.out.size)
  clear hb3
  go_wp2_with (fail)
  go_ret
  exact ⟨rfl, HB3.out⟩
end Effect
end Go.Proofs.YtabegjpledammaaGreatDoor
namespace Go.Proofs.YtabegjpledammaaGreatDoor
open Go.RowKit
set_option linter.unusedVariables false
set_option linter.unusedSimpArgs false
namespace Effect

def withinB (l k : List At) : Bool := l.all fun x => !atomB x || decide (x ∈ k)
set_option maxRecDepth 100000 in
set_option maxHeartbeats 6400000 in
theorem refWithin_walk {n c m d : Nat} {a b : Option Addr} {l k : List At} {w : World} (h : Rd w n a l) (h2 : Rd w m b k) (hn : n ≤ 100000) (hm : m ≤ 100000) : Calls Tryz.prog 37 #[.slice a n c, .slice b m d] w fun e w' => e = .returned (.bool (withinB l k)) ∧ Below w.heap.size w w' := by
  have H := Lib.hid h; have H2 := Lib.hid h2
  clear h h2
  go_enter Tryz.func37, Tryz.ntmps37
  go_wp2_with (fail)
  go_loopw [5, 8] (fun _ i wr => ∃ j : Nat, j ≤ n ∧ i = .int .i64 (j : Int) ∧ Hid (Below w.heap.size w wr) ∧ Hid (withinB (l.take j) k = true)) (fun _ i _ => n - (intOf i).toNat)
  case atStart => exact ⟨0, Nat.zero_le _, rfl, Lib.hid (Below.refl _ _), Lib.hid (by simp [withinB])⟩
  case round =>
    obtain ⟨j, hj, rfl, HS, HA⟩ := hrel
    by_cases hlt : j < n
    · have hjl : j < l.length := by rw [H.out.len]; exact hlt
      obtain ⟨b1, o, rfl, a0, a1, a2⟩ := (H.out.at_.below HS.out).get j hjl
      have hx := H.out.ok _ (aget_mem hjl)
      have htk := at_take l j hjl
      have hmem := aget_mem hjl
      have hlt0 : b1 < wr.heap.size := World.block_lt_of_cell? wr _ a0
      generalize aget l j = x at *
      have HTK := Lib.hid htk; have HMEM := Lib.hid hmem
      have HAT := Lib.hid (refAtom_walk x wr hx)
      have HIN := Lib.hid fun (W : World) (hW : Below wr.heap.size wr W) => in_walk (c := d) ((H2.out.below HS.out).below hW) x hm
      have HC := Lib.hid (And.intro a0 (And.intro a1 a2))
      clear htk hmem hjl hx
      go_wp2_with (fail)
      refine HAT.out.mono ?_
      rintro e w1 ⟨rfl, hb1⟩
      obtain ⟨a0, a1, a2⟩ := HC.out
      have a0 := (hb1.cell (p := ⟨b1, _, none⟩) hlt0).trans a0
      have a1 := (hb1.cell (p := ⟨b1, _, none⟩) hlt0).trans a1
      have a2 := (hb1.cell (p := ⟨b1, _, none⟩) hlt0).trans a2
      have HI := Lib.hid (HIN.out w1 hb1)
      have HB1 := Lib.hid (below_then HS.out hb1 HS.out.size)
      clear hb1
      cases hat : atomB x
      · have HAT2 := Lib.hid hat
        clear hat
        go_wp2_with (fail)
        go_roundw
        case rel => exact ⟨j + 1, by omega, by go_num, HB1, Lib.hid (by rw [HTK.out]; unfold withinB; rw [List.all_append]; have := HA.out; unfold withinB at this; rw [this]; simp [HAT2.out])⟩
        case measure => simp [intOf]; omega
      · have HAT2 := Lib.hid hat
        clear hat
        go_wp2_with (fail)
        refine HI.out.mono ?_
        rintro e w2 ⟨rfl, hb2⟩
        have HB2 := Lib.hid (below_then HB1.out hb2 HB1.out.size)
        clear hb2
        by_cases hin : x ∈ k
        · have HIN2 := Lib.hid hin
          rw [decide_eq_true hin]
          clear hin
          go_wp2_with (fail)
          go_roundw
          case rel => exact ⟨j + 1, by omega, by go_num, HB2, Lib.hid (by rw [HTK.out]; unfold withinB; rw [List.all_append]; have := HA.out; unfold withinB at this; rw [this]; simp [HIN2.out])⟩
          case measure => simp [intOf]; omega
        · have HIN2 := Lib.hid hin
          rw [decide_eq_false hin]
          clear hin
          go_wp2_with (fail)
          go_ret
          refine ⟨ret_bool ?_, HB2.out⟩
          symm
          unfold withinB
          rw [Bool.eq_false_iff]
          intro hall
          have := List.all_eq_true.1 hall x HMEM.out
          rw [HAT2.out, decide_eq_false HIN2.out] at this
          cases this
    · obtain rfl : j = n := by omega
      have hall := HA.out
      rw [List.take_of_length_le (by rw [H.out.len]; exact Nat.le_refl _)] at hall
      have HALL := Lib.hid hall
      clear hall
      go_wp2_with (fail)
      go_ret
      exact ⟨ret_bool HALL.out.symm, HS.out⟩
end Effect
end Go.Proofs.YtabegjpledammaaGreatDoor
namespace Go.Proofs.YtabegjpledammaaGreatDoor
open Go.RowKit
set_option linter.unusedVariables false
set_option linter.unusedSimpArgs false
namespace Effect

/-! ### Mathematics -/
theorem within_iff (l k : List At) : withinB l k = true ↔ ∀ x ∈ l, atomB x = true → x ∈ k := by
  unfold withinB
  rw [List.all_eq_true]
  constructor
  · intro h x hx ha
    have := h x hx
    rw [ha] at this
    simpa using this
  · intro h x hx
    cases ha : atomB x with
    | false => rfl
    | true => simpa using h x hx ha
theorem same_iff (l k : List At) : decide (ofA l = ofA k) = (withinB l k && withinB k l) := by
  by_cases h : withinB l k = true ∧ withinB k l = true
  · rw [h.1, h.2]
    exact decide_eq_true (of_congr fun b hb => ⟨fun h2 => (within_iff l k).1 h.1 b h2 hb, fun h2 => (within_iff k l).1 h.2 b h2 hb⟩)
  · have e : (withinB l k && withinB k l) = false := by
      rw [Bool.eq_false_iff]
      intro h2
      exact h (Bool.and_eq_true_iff.1 h2)
    rw [e]
    refine decide_eq_false fun he => h ⟨(within_iff l k).2 fun x hx ha => ?_, (within_iff k l).2 fun x hx ha => ?_⟩
    · have : x ∈ ofA k := by rw [← he]; exact (mem_of _ _).2 ⟨hx, ha⟩
      exact ((mem_of _ _).1 this).1
    · have : x ∈ ofA l := by rw [he]; exact (mem_of _ _).2 ⟨hx, ha⟩
      exact ((mem_of _ _).1 this).1
end Effect
end Go.Proofs.YtabegjpledammaaGreatDoor
