/- The walk of layer 7's statement on two terms together. -/
import Derived.Test.YtkcadkjpneoobaaDoorScopeTgM
import Derived.Test.YtkcadkjpneoobaaDoorScopeH
import Derived.Test.YtkcadkjpneoobaaDoorGTermD
import Derived.Deep.DeepCutAuto
namespace Go.Proofs.YtkcadkjpneoobaaDoor
open Go.RowKit
set_option linter.unusedVariables false
set_option linter.unusedSimpArgs false
namespace Scope
open Term (Tm Hd TmIs ret_bool ret_i64 tget wt wts wts_cons wts_nil drop_tget tcells mayT okT greatB Flat)
open Words (str_no str_yes sel StrsAt)

def exnP : List ByteArray → Hd → ByteArray := fun (_ : List ByteArray) (h : Hd) => h.exn

set_option maxRecDepth 100000 in
set_option maxHeartbeats 51200000 in
theorem scopeTogether_walk (ha : Hd) (qa : Option Addr) (la ca : Nat) (ta : Tm) (hb : Hd) (qb : Option Addr) (lb cb : Nat) (tb : Tm) (w : World) (hTa : TmIs w ha qa la ca ta) (hTb : TmIs w hb qb lb cb tb) (hkw : Words.KwLaid w) :
    Calls Tryd.prog 7 #[.agg #[.int .u8 ha.k, .int .u8 ha.op, .int .i64 ha.pl, .int .i64 ha.n, .string ha.name, .string ha.arg, .string ha.exn, .slice qa la ca], .agg #[.int .u8 hb.k, .int .u8 hb.op, .int .i64 hb.pl, .int .i64 hb.n, .string hb.name, .string hb.arg, .string hb.exn, .slice qb lb cb]] w fun e w' => e = .returned (.bool true) ∧ Below w.heap.size w w' := by
  have hga := fun W (h : Below w.heap.size w W) => Term.great_walk ta ha qa la ca W (hTa.below h)
  have hgb := fun W (h : Below w.heap.size w W) => Term.great_walk tb hb qb lb cb W (hTb.below h)
  have hma := fun W (h : Below w.heap.size w W) (hw : wt ta ≤ 4000) => Term.refMay_walk ta ha qa la ca W (hTa.below h) hw
  have hmb := fun W (h : Below w.heap.size w W) (hw : wt tb ≤ 4000) => Term.refMay_walk tb hb qb lb cb W (hTb.below h) hw
  have haw := fun W (h : Below w.heap.size w W) => awake_walk W (hkw.below h)
  obtain ⟨ka, opa, pla, nna, nma, ara, exa⟩ := ha
  obtain ⟨kb, opb, plb, nnb, nmb, arb, exb⟩ := hb
  have hfa := fun (hw : wt ta ≤ 400) W b (h : Below w.heap.size w W) (hx : W.heap[b]? = some (.cells #[.int .u8 ka, .int .u8 opa, .int .i64 pla, .int .i64 nna, .string nma, .string ara, .string exa, .slice qa la ca] 27 (0, 0))) => scopeFree_walk [ta] (some ⟨b, 0, none⟩) 1 1 W (kids_blk (xs := tcells ⟨ka, opa, pla, nna, nma, ara, exa⟩ qa la ca) hx (Flat.one (hTa.below h))) rfl (by unfold maxLen; omega) (by rw [wts_cons, wts_nil]; omega) (hkw.below h)
  have hea := fun (hw : wt ta ≤ 400) W b (h : Below w.heap.size w W) (hx : W.heap[b]? = some (.cells #[.int .u8 ka, .int .u8 opa, .int .i64 pla, .int .i64 nna, .string nma, .string ara, .string exa, .slice qa la ca] 27 (0, 0))) => scopeExn_walk [ta] (some ⟨b, 0, none⟩) 1 1 W (kids_blk (xs := tcells ⟨ka, opa, pla, nna, nma, ara, exa⟩ qa la ca) hx (Flat.one (hTa.below h))) rfl (by unfold maxLen; omega) (by rw [wts_cons, wts_nil]; omega) (hkw.below h)
  have hfb := fun (hw : wt tb ≤ 400) W b (h : Below w.heap.size w W) (hx : W.heap[b]? = some (.cells #[.int .u8 kb, .int .u8 opb, .int .i64 plb, .int .i64 nnb, .string nmb, .string arb, .string exb, .slice qb lb cb] 27 (0, 0))) => scopeFree_walk [tb] (some ⟨b, 0, none⟩) 1 1 W (kids_blk (xs := tcells ⟨kb, opb, plb, nnb, nmb, arb, exb⟩ qb lb cb) hx (Flat.one (hTb.below h))) rfl (by unfold maxLen; omega) (by rw [wts_cons, wts_nil]; omega) (hkw.below h)
  have heb := fun (hw : wt tb ≤ 400) W b (h : Below w.heap.size w W) (hx : W.heap[b]? = some (.cells #[.int .u8 kb, .int .u8 opb, .int .i64 plb, .int .i64 nnb, .string nmb, .string arb, .string exb, .slice qb lb cb] 27 (0, 0))) => scopeExn_walk [tb] (some ⟨b, 0, none⟩) 1 1 W (kids_blk (xs := tcells ⟨kb, opb, plb, nnb, nmb, arb, exb⟩ qb lb cb) hx (Flat.one (hTb.below h))) rfl (by unfold maxLen; omega) (by rw [wts_cons, wts_nil]; omega) (hkw.below h)
  have hfab := fun (hw : wt ta ≤ 400) (hw' : wt tb ≤ 400) W b (h : Below w.heap.size w W) (hx : W.heap[b]? = some (.cells #[.int .u8 ka, .int .u8 opa, .int .i64 pla, .int .i64 nna, .string nma, .string ara, .string exa, .slice qa la ca, .int .u8 kb, .int .u8 opb, .int .i64 plb, .int .i64 nnb, .string nmb, .string arb, .string exb, .slice qb lb cb] 27 (0, 0))) => scopeFree_walk [ta, tb] (some ⟨b, 0, none⟩) 2 2 W (kids_blk (xs := tcells ⟨ka, opa, pla, nna, nma, ara, exa⟩ qa la ca ++ tcells ⟨kb, opb, plb, nnb, nmb, arb, exb⟩ qb lb cb) hx ((Flat.one (hTa.below h)).append (Flat.one (hTb.below h)))) rfl (by unfold maxLen; omega) (by rw [wts_cons, wts_cons, wts_nil]; omega) (hkw.below h)
  have heab := fun (hw : wt ta ≤ 400) (hw' : wt tb ≤ 400) W b (h : Below w.heap.size w W) (hx : W.heap[b]? = some (.cells #[.int .u8 ka, .int .u8 opa, .int .i64 pla, .int .i64 nna, .string nma, .string ara, .string exa, .slice qa la ca, .int .u8 kb, .int .u8 opb, .int .i64 plb, .int .i64 nnb, .string nmb, .string arb, .string exb, .slice qb lb cb] 27 (0, 0))) => scopeExn_walk [ta, tb] (some ⟨b, 0, none⟩) 2 2 W (kids_blk (xs := tcells ⟨ka, opa, pla, nna, nma, ara, exa⟩ qa la ca ++ tcells ⟨kb, opb, plb, nnb, nmb, arb, exb⟩ qb lb cb) hx ((Flat.one (hTa.below h)).append (Flat.one (hTb.below h)))) rfl (by unfold maxLen; omega) (by rw [wts_cons, wts_cons, wts_nil]; omega) (hkw.below h)
  have h2 : Two w #[.int .u8 ka, .int .u8 opa, .int .i64 pla, .int .i64 nna, .string nma, .string ara, .string exa, .slice qa la ca] #[.int .u8 kb, .int .u8 opb, .int .i64 plb, .int .i64 nnb, .string nmb, .string arb, .string exb, .slice qb lb cb] ((w.alloc (.cells #[.int .u8 ka, .int .u8 opa, .int .i64 pla, .int .i64 nna, .string nma, .string ara, .string exa, .slice qa la ca] 27)).alloc (.cells #[.int .u8 kb, .int .u8 opb, .int .i64 plb, .int .i64 nnb, .string nmb, .string arb, .string exb, .slice qb lb cb] 27)) := by
    have h1 := heap_alloc_new (w.alloc (.cells #[.int .u8 ka, .int .u8 opa, .int .i64 pla, .int .i64 nna, .string nma, .string ara, .string exa, .slice qa la ca] 27)) (.cells #[.int .u8 kb, .int .u8 opb, .int .i64 plb, .int .i64 nnb, .string nmb, .string arb, .string exb, .slice qb lb cb] 27)
    have e1 : (w.alloc (.cells #[.int .u8 ka, .int .u8 opa, .int .i64 pla, .int .i64 nna, .string nma, .string ara, .string exa, .slice qa la ca] 27)).heap.size = w.heap.size + 1 := by simp
    rw [e1] at h1
    exact ⟨((Below.refl w.heap.size w).alloc (Nat.le_refl _) _).alloc (by simp) _, (Below.heap_alloc _ _ _ (by simp)).trans (heap_alloc_new w _), h1⟩
  have HGA := Lib.hid hga; have HGB := Lib.hid hgb; have HMA := Lib.hid hma; have HMB := Lib.hid hmb; have HAW := Lib.hid haw; have HFA := Lib.hid hfa; have HEA := Lib.hid hea; have HFB := Lib.hid hfb; have HEB := Lib.hid heb; have HFAB := Lib.hid hfab; have HEAB := Lib.hid heab; have H2 := Lib.hid h2
  clear hga hgb hma hmb haw hfa hea hfb heb hfab heab h2 hTa hTb hkw
  go_enter Tryd.func7, Tryd.ntmps7
  go_wp2_with (fail)
  refine (HGA.out _ H2.out.below).mono ?_
  rintro e w1 ⟨rfl, hb1⟩
  have H1 := Lib.hid (H2.out.later hb1)
  clear hb1
  obtain ⟨⟨a0, a1, a2, a3, a4, a5, a6, a7⟩, d0, d1, d2, d3, d4, d5, d6, d7⟩ := cells8' H1.out.b0
  obtain ⟨⟨b0, b1, b2, b3, b4, b5, b6, b7⟩, f0, f1, f2, f3, f4, f5, f6, f7⟩ := cells8' H1.out.b1
  have al := lt_of_block H1.out.b0
  have bl := lt_of_block H1.out.b1
  cases hx : greatB ta
  rotate_left
  · clear hx
    go_wp2_with (fail)
    refine (HAW.out _ H1.out.below).mono ?_
    rintro e wz ⟨rfl, hbz⟩
    have HBZ := Lib.hid (H1.out.later hbz)
    clear hbz
    go_wp2_with (fail)
    go_ret
    exact ⟨rfl, HBZ.out.below⟩
  have HWA := Lib.hid (Term.small_of hx).1
  clear hx
  go_wp2_with (fail)
  refine (HGB.out _ H1.out.below).mono ?_
  rintro e w2b ⟨rfl, hb2b⟩
  have H2b := Lib.hid (H1.out.later hb2b)
  clear hb2b
  clear a0 a1 a2 a3 a4 a5 a6 a7 d0 d1 d2 d3 d4 d5 d6 d7 b0 b1 b2 b3 b4 b5 b6 b7 f0 f1 f2 f3 f4 f5 f6 f7 al bl
  obtain ⟨⟨a0, a1, a2, a3, a4, a5, a6, a7⟩, d0, d1, d2, d3, d4, d5, d6, d7⟩ := cells8' H2b.out.b0
  obtain ⟨⟨b0, b1, b2, b3, b4, b5, b6, b7⟩, f0, f1, f2, f3, f4, f5, f6, f7⟩ := cells8' H2b.out.b1
  have al := lt_of_block H2b.out.b0
  have bl := lt_of_block H2b.out.b1
  cases hx : greatB tb
  rotate_left
  · clear hx
    go_wp2_with (fail)
    refine (HAW.out _ H2b.out.below).mono ?_
    rintro e wz ⟨rfl, hbz⟩
    have HBZ := Lib.hid (H2b.out.later hbz)
    clear hbz
    go_wp2_with (fail)
    go_ret
    exact ⟨rfl, HBZ.out.below⟩
  have HWB := Lib.hid (Term.small_of hx).1
  clear hx
  go_wp2_with (fail)
  refine (HMA.out _ H2b.out.below (by have := HWA.out; omega)).mono ?_
  rintro e w3 ⟨rfl, hb3⟩
  have H3 := Lib.hid (H2b.out.later hb3)
  clear hb3
  clear a0 a1 a2 a3 a4 a5 a6 a7 d0 d1 d2 d3 d4 d5 d6 d7 b0 b1 b2 b3 b4 b5 b6 b7 f0 f1 f2 f3 f4 f5 f6 f7 al bl
  obtain ⟨⟨a0, a1, a2, a3, a4, a5, a6, a7⟩, d0, d1, d2, d3, d4, d5, d6, d7⟩ := cells8' H3.out.b0
  obtain ⟨⟨b0, b1, b2, b3, b4, b5, b6, b7⟩, f0, f1, f2, f3, f4, f5, f6, f7⟩ := cells8' H3.out.b1
  have al := lt_of_block H3.out.b0
  have bl := lt_of_block H3.out.b1
  cases hx : mayT ta
  · clear hx
    go_wp2_with (fail)
    refine (HAW.out _ H3.out.below).mono ?_
    rintro e wz ⟨rfl, hbz⟩
    have HBZ := Lib.hid (H3.out.later hbz)
    clear hbz
    go_wp2_with (fail)
    go_ret
    exact ⟨rfl, HBZ.out.below⟩
  have HMAY := Lib.hid hx
  clear hx
  go_wp2_with (fail)
  refine (HMB.out _ H3.out.below (by have := HWB.out; omega)).mono ?_
  rintro e w4 ⟨rfl, hb4⟩
  have H4 := Lib.hid (H3.out.later hb4)
  clear hb4
  clear a0 a1 a2 a3 a4 a5 a6 a7 d0 d1 d2 d3 d4 d5 d6 d7 b0 b1 b2 b3 b4 b5 b6 b7 f0 f1 f2 f3 f4 f5 f6 f7 al bl
  obtain ⟨⟨a0, a1, a2, a3, a4, a5, a6, a7⟩, d0, d1, d2, d3, d4, d5, d6, d7⟩ := cells8' H4.out.b0
  obtain ⟨⟨b0, b1, b2, b3, b4, b5, b6, b7⟩, f0, f1, f2, f3, f4, f5, f6, f7⟩ := cells8' H4.out.b1
  have al := lt_of_block H4.out.b0
  have bl := lt_of_block H4.out.b1
  cases hx : mayT tb
  · clear hx
    go_wp2_with (fail)
    refine (HAW.out _ H4.out.below).mono ?_
    rintro e wz ⟨rfl, hbz⟩
    have HBZ := Lib.hid (H4.out.later hbz)
    clear hbz
    go_wp2_with (fail)
    go_ret
    exact ⟨rfl, HBZ.out.below⟩
  have HMBY := Lib.hid hx
  clear hx
  clear a0 a1 a2 a3 a4 a5 a6 a7 d0 d1 d2 d3 d4 d5 d6 d7 b0 b1 b2 b3 b4 b5 b6 b7 f0 f1 f2 f3 f4 f5 f6 f7 al bl
  have HFREE := Lib.hid (HFA.out HWA.out); have HEXN := Lib.hid (HEA.out HWA.out)
  go_upto_region 3 with (fail)
  go_cut [5, 6] (fun s5 s6 wx => ∃ vn ve, vn = s5 ∧ ve = s6 ∧ Two w #[.int .u8 ka, .int .u8 opa, .int .i64 pla, .int .i64 nna, .string nma, .string ara, .string exa, .slice qa la ca] #[.int .u8 kb, .int .u8 opb, .int .i64 plb, .int .i64 nnb, .string nmb, .string arb, .string exb, .slice qb lb cb] wx ∧ Nm wx (w.heap.size + 2) vn (metF freeP [ta]) ∧ Nm wx (w.heap.size + 2) ve (metF exnP [ta]) ∧ Dis vn ve)
  case first =>
    go_wp2_with (fail)
    refine wp_region_held_drew (S := fun V => Two w #[.int .u8 ka, .int .u8 opa, .int .i64 pla, .int .i64 nna, .string nma, .string ara, .string exa, .slice qa la ca] #[.int .u8 kb, .int .u8 opb, .int .i64 plb, .int .i64 nnb, .string nmb, .string arb, .string exb, .slice qb lb cb] V ∧ Below w4.heap.size w4 V) (by kernel_rfl) ⟨H4.out.later (Below.refl _ _).drew, (Below.refl _ _).drew⟩ (fun hHeld => ?_)
    have HS0 : Hid (Two w #[.int .u8 ka, .int .u8 opa, .int .i64 pla, .int .i64 nna, .string nma, .string ara, .string exa, .slice qa la ca] #[.int .u8 kb, .int .u8 opb, .int .i64 plb, .int .i64 nnb, .string nmb, .string arb, .string exb, .slice qb lb cb] w4.drew ∧ Below w4.heap.size w4 w4.drew) := Lib.hid ⟨H4.out.later (Below.refl _ _).drew, (Below.refl _ _).drew⟩
    generalize w4.drew = v0 at *
    refine wpAnyH_take (i := 0) (v := .agg #[.int .u8 ka, .int .u8 opa, .int .i64 pla, .int .i64 nna, .string nma, .string ara, .string exa, .slice qa la ca]) rfl (by kernel_rfl) (by kernel_rfl) (by kernel_rfl) (fun _ _ _ h => h) (Or.inl ⟨by rfl, ?_⟩) (by assumption) ?_
    · intro w' hSw
      obtain ⟨⟨g0, g1, g2, g3, g4, g5, g6, g7⟩, e0, e1, e2, e3, e4, e5, e6, e7⟩ := cells8' hSw.1.b0
      first | go_simp | rfl
    try simp only [Act.put, List.getElem_toArray, List.getElem_cons_succ, List.getElem_cons_zero, List.setIfInBounds_toArray, List.set_cons_zero, List.set_cons_succ]
    refine wpAnyH_take (i := 3) (v := .agg #[.int .u8 ka, .int .u8 opa, .int .i64 pla, .int .i64 nna, .string nma, .string ara, .string exa, .slice qa la ca]) rfl (by kernel_rfl) (by kernel_rfl) (by kernel_rfl) (fun _ _ _ h => h) (Or.inl ⟨by rfl, ?_⟩) (by assumption) ?_
    · intro w' hSw
      obtain ⟨⟨g0, g1, g2, g3, g4, g5, g6, g7⟩, e0, e1, e2, e3, e4, e5, e6, e7⟩ := cells8' hSw.1.b0
      first | go_simp | rfl
    try simp only [Act.put, List.getElem_toArray, List.getElem_cons_succ, List.getElem_cons_zero, List.setIfInBounds_toArray, List.set_cons_zero, List.set_cons_succ]
    refine wpAnyH_ready (rs := [1, 4]) (by kernel_rfl) (by simp) ?_
    refine AllReadyH.cons rfl (fun K hK => ?_) (AllReadyH.cons rfl (fun K hK => ?_) AllReadyH.nil)
    · skip
      have HK2 := Lib.hid hK
      clear hK
      go_simp
      have hav1 : Below v0.heap.size v0 (v0.alloc (.cells #[.int .u8 ka, .int .u8 opa, .int .i64 pla, .int .i64 nna, .string nma, .string ara, .string exa, .slice qa la ca] 27)) := (Below.refl _ _).alloc (Nat.le_refl _) _
      have hbv1 : (v0.alloc (.cells #[.int .u8 ka, .int .u8 opa, .int .i64 pla, .int .i64 nna, .string nma, .string ara, .string exa, .slice qa la ca] 27)).heap[v0.heap.size]? = some (.cells #[.int .u8 ka, .int .u8 opa, .int .i64 pla, .int .i64 nna, .string nma, .string ara, .string exa, .slice qa la ca] 27 (0, 0)) := heap_alloc_new v0 _
      have hsv1 : Two w #[.int .u8 ka, .int .u8 opa, .int .i64 pla, .int .i64 nna, .string nma, .string ara, .string exa, .slice qa la ca] #[.int .u8 kb, .int .u8 opb, .int .i64 plb, .int .i64 nnb, .string nmb, .string arb, .string exb, .slice qb lb cb] (v0.alloc (.cells #[.int .u8 ka, .int .u8 opa, .int .i64 pla, .int .i64 nna, .string nma, .string ara, .string exa, .slice qa la ca] 27)) ∧ Below w4.heap.size w4 (v0.alloc (.cells #[.int .u8 ka, .int .u8 opa, .int .i64 pla, .int .i64 nna, .string nma, .string ara, .string exa, .slice qa la ca] 27)) := ⟨HS0.out.1.later hav1, HS0.out.2.trans (hav1.mono HS0.out.2.size)⟩
      refine HK2.out _ _ hsv1 (fun hHeld => ?_)
      generalize v0.alloc (.cells #[.int .u8 ka, .int .u8 opa, .int .i64 pla, .int .i64 nna, .string nma, .string ara, .string exa, .slice qa la ca] 27) = v1 at *
      have Hv1 := Lib.hid hsv1; have Av1 := Lib.hid hav1; have Bv1 := Lib.hid hbv1
      clear hsv1 hav1 hbv1 HK2
      try simp only [Act.put, List.getElem_toArray, List.getElem_cons_succ, List.getElem_cons_zero, List.setIfInBounds_toArray, List.set_cons_zero, List.set_cons_succ]
      clear K
      refine wpAnyH_ready (rs := [2, 4]) (by kernel_rfl) (by simp) ?_
      refine AllReadyH.cons rfl (fun K hK => ?_) (AllReadyH.cons rfl (fun K hK => ?_) AllReadyH.nil)
      · skip
        have HK2 := Lib.hid hK
        clear hK
        go_simp
        refine (HFREE.out _ _ Hv1.out.1.below Bv1.out).mono ?_
        rintro e v2 ⟨u, rfl, hnv2, hkv2⟩
        have hsv2 : Two w #[.int .u8 ka, .int .u8 opa, .int .i64 pla, .int .i64 nna, .string nma, .string ara, .string exa, .slice qa la ca] #[.int .u8 kb, .int .u8 opb, .int .i64 plb, .int .i64 nnb, .string nmb, .string arb, .string exb, .slice qb lb cb] v2 ∧ Below w4.heap.size w4 v2 := ⟨Hv1.out.1.later hkv2, Hv1.out.2.trans (hkv2.mono Hv1.out.2.size)⟩
        refine HK2.out _ _ hsv2 (fun hHeld => ?_)
        have Hv2 := Lib.hid hsv2; have Nv2 := Lib.hid hnv2; have Av2 := Lib.hid hkv2
        clear hsv2 hnv2 hkv2 HK2
        try simp only [Act.put, List.getElem_toArray, List.getElem_cons_succ, List.getElem_cons_zero, List.setIfInBounds_toArray, List.set_cons_zero, List.set_cons_succ]
        clear K
        refine wpAnyH_ready (rs := [4]) (by kernel_rfl) (by simp) ?_
        refine AllReadyH.cons rfl (fun K hK => ?_) AllReadyH.nil
        have HK2 := Lib.hid hK
        clear hK
        go_simp
        have hav3 : Below v2.heap.size v2 (v2.alloc (.cells #[.int .u8 ka, .int .u8 opa, .int .i64 pla, .int .i64 nna, .string nma, .string ara, .string exa, .slice qa la ca] 27)) := (Below.refl _ _).alloc (Nat.le_refl _) _
        have hbv3 : (v2.alloc (.cells #[.int .u8 ka, .int .u8 opa, .int .i64 pla, .int .i64 nna, .string nma, .string ara, .string exa, .slice qa la ca] 27)).heap[v2.heap.size]? = some (.cells #[.int .u8 ka, .int .u8 opa, .int .i64 pla, .int .i64 nna, .string nma, .string ara, .string exa, .slice qa la ca] 27 (0, 0)) := heap_alloc_new v2 _
        have hsv3 : Two w #[.int .u8 ka, .int .u8 opa, .int .i64 pla, .int .i64 nna, .string nma, .string ara, .string exa, .slice qa la ca] #[.int .u8 kb, .int .u8 opb, .int .i64 plb, .int .i64 nnb, .string nmb, .string arb, .string exb, .slice qb lb cb] (v2.alloc (.cells #[.int .u8 ka, .int .u8 opa, .int .i64 pla, .int .i64 nna, .string nma, .string ara, .string exa, .slice qa la ca] 27)) ∧ Below w4.heap.size w4 (v2.alloc (.cells #[.int .u8 ka, .int .u8 opa, .int .i64 pla, .int .i64 nna, .string nma, .string ara, .string exa, .slice qa la ca] 27)) := ⟨Hv2.out.1.later hav3, Hv2.out.2.trans (hav3.mono Hv2.out.2.size)⟩
        refine HK2.out _ _ hsv3 (fun hHeld => ?_)
        generalize v2.alloc (.cells #[.int .u8 ka, .int .u8 opa, .int .i64 pla, .int .i64 nna, .string nma, .string ara, .string exa, .slice qa la ca] 27) = v3 at *
        have Hv3 := Lib.hid hsv3; have Av3 := Lib.hid hav3; have Bv3 := Lib.hid hbv3
        clear hsv3 hav3 hbv3 HK2
        try simp only [Act.put, List.getElem_toArray, List.getElem_cons_succ, List.getElem_cons_zero, List.setIfInBounds_toArray, List.set_cons_zero, List.set_cons_succ]
        clear K
        refine wpAnyH_ready (rs := [5]) (by kernel_rfl) (by simp) ?_
        refine AllReadyH.cons rfl (fun K hK => ?_) AllReadyH.nil
        have HK2 := Lib.hid hK
        clear hK
        go_simp
        refine (HEXN.out _ _ Hv3.out.1.below Bv3.out).mono ?_
        rintro e v4 ⟨v, rfl, hnv4, hkv4⟩
        have hsv4 : Two w #[.int .u8 ka, .int .u8 opa, .int .i64 pla, .int .i64 nna, .string nma, .string ara, .string exa, .slice qa la ca] #[.int .u8 kb, .int .u8 opb, .int .i64 plb, .int .i64 nnb, .string nmb, .string arb, .string exb, .slice qb lb cb] v4 ∧ Below w4.heap.size w4 v4 := ⟨Hv3.out.1.later hkv4, Hv3.out.2.trans (hkv4.mono Hv3.out.2.size)⟩
        refine HK2.out _ _ hsv4 (fun hHeld => ?_)
        have Hv4 := Lib.hid hsv4; have Nv4 := Lib.hid hnv4; have Av4 := Lib.hid hkv4
        clear hsv4 hnv4 hkv4 HK2
        try simp only [Act.put, List.getElem_toArray, List.getElem_cons_succ, List.getElem_cons_zero, List.setIfInBounds_toArray, List.set_cons_zero, List.set_cons_succ]
        clear K
        refine wpAnyH_ready (rs := [6]) (by kernel_rfl) (by simp) ?_
        refine AllReadyH.cons rfl (fun K hK => ?_) AllReadyH.nil
        have HK2 := Lib.hid hK
        clear hK
        go_simp
        refine HK2.out _ _ Hv4.out (fun hHeld => ?_)
        clear HK2
        try simp only [Act.put, List.getElem_toArray, List.getElem_cons_succ, List.getElem_cons_zero, List.setIfInBounds_toArray, List.set_cons_zero, List.set_cons_succ]
        clear K
        refine wpAnyH_ready (rs := [7]) (by kernel_rfl) (by simp) ?_
        refine AllReadyH.cons rfl (fun K hK => ?_) AllReadyH.nil
        have HK2 := Lib.hid hK
        clear hK
        go_simp
        refine HK2.out _ _ Hv4.out (fun hHeld => ?_)
        clear HK2
        try simp only [Act.put, List.getElem_toArray, List.getElem_cons_succ, List.getElem_cons_zero, List.setIfInBounds_toArray, List.set_cons_zero, List.set_cons_succ]
        clear K
        refine wpAnyH_done (by kernel_rfl) ?_ _
        have hm := two_met HS0.out.1.lt Av1.out Nv2.out Av2.out Av3.out Nv4.out Av4.out
        have HM := Lib.hid hm
        clear hm hHeld
        go_wp2_with (fail)
        go_meet
        exact ⟨_, _, rfl, rfl, Hv4.out.1, HM.out.1, HM.out.2.1, HM.out.2.2.1⟩
      · skip
        have HK2 := Lib.hid hK
        clear hK
        go_simp
        have hav3 : Below v1.heap.size v1 (v1.alloc (.cells #[.int .u8 ka, .int .u8 opa, .int .i64 pla, .int .i64 nna, .string nma, .string ara, .string exa, .slice qa la ca] 27)) := (Below.refl _ _).alloc (Nat.le_refl _) _
        have hbv3 : (v1.alloc (.cells #[.int .u8 ka, .int .u8 opa, .int .i64 pla, .int .i64 nna, .string nma, .string ara, .string exa, .slice qa la ca] 27)).heap[v1.heap.size]? = some (.cells #[.int .u8 ka, .int .u8 opa, .int .i64 pla, .int .i64 nna, .string nma, .string ara, .string exa, .slice qa la ca] 27 (0, 0)) := heap_alloc_new v1 _
        have hsv3 : Two w #[.int .u8 ka, .int .u8 opa, .int .i64 pla, .int .i64 nna, .string nma, .string ara, .string exa, .slice qa la ca] #[.int .u8 kb, .int .u8 opb, .int .i64 plb, .int .i64 nnb, .string nmb, .string arb, .string exb, .slice qb lb cb] (v1.alloc (.cells #[.int .u8 ka, .int .u8 opa, .int .i64 pla, .int .i64 nna, .string nma, .string ara, .string exa, .slice qa la ca] 27)) ∧ Below w4.heap.size w4 (v1.alloc (.cells #[.int .u8 ka, .int .u8 opa, .int .i64 pla, .int .i64 nna, .string nma, .string ara, .string exa, .slice qa la ca] 27)) := ⟨Hv1.out.1.later hav3, Hv1.out.2.trans (hav3.mono Hv1.out.2.size)⟩
        refine HK2.out _ _ hsv3 (fun hHeld => ?_)
        generalize v1.alloc (.cells #[.int .u8 ka, .int .u8 opa, .int .i64 pla, .int .i64 nna, .string nma, .string ara, .string exa, .slice qa la ca] 27) = v3 at *
        have Hv3 := Lib.hid hsv3; have Av3 := Lib.hid hav3; have Bv3 := Lib.hid hbv3
        clear hsv3 hav3 hbv3 HK2
        try simp only [Act.put, List.getElem_toArray, List.getElem_cons_succ, List.getElem_cons_zero, List.setIfInBounds_toArray, List.set_cons_zero, List.set_cons_succ]
        clear K
        refine wpAnyH_ready (rs := [2]) (by kernel_rfl) (by simp) ?_
        refine AllReadyH.cons rfl (fun K hK => ?_) AllReadyH.nil
        have HK2 := Lib.hid hK
        clear hK
        go_simp
        refine (HFREE.out _ _ Hv3.out.1.below ((Av3.out.block _ (lt_of_block Bv1.out)).trans Bv1.out)).mono ?_
        rintro e v2 ⟨u, rfl, hnv2, hkv2⟩
        have hsv2 : Two w #[.int .u8 ka, .int .u8 opa, .int .i64 pla, .int .i64 nna, .string nma, .string ara, .string exa, .slice qa la ca] #[.int .u8 kb, .int .u8 opb, .int .i64 plb, .int .i64 nnb, .string nmb, .string arb, .string exb, .slice qb lb cb] v2 ∧ Below w4.heap.size w4 v2 := ⟨Hv3.out.1.later hkv2, Hv3.out.2.trans (hkv2.mono Hv3.out.2.size)⟩
        refine HK2.out _ _ hsv2 (fun hHeld => ?_)
        have Hv2 := Lib.hid hsv2; have Nv2 := Lib.hid hnv2; have Av2 := Lib.hid hkv2
        clear hsv2 hnv2 hkv2 HK2
        try simp only [Act.put, List.getElem_toArray, List.getElem_cons_succ, List.getElem_cons_zero, List.setIfInBounds_toArray, List.set_cons_zero, List.set_cons_succ]
        clear K
        refine wpAnyH_ready (rs := [5]) (by kernel_rfl) (by simp) ?_
        refine AllReadyH.cons rfl (fun K hK => ?_) AllReadyH.nil
        have HK2 := Lib.hid hK
        clear hK
        go_simp
        refine (HEXN.out _ _ Hv2.out.1.below ((Av2.out.block _ (lt_of_block Bv3.out)).trans Bv3.out)).mono ?_
        rintro e v4 ⟨v, rfl, hnv4, hkv4⟩
        have hsv4 : Two w #[.int .u8 ka, .int .u8 opa, .int .i64 pla, .int .i64 nna, .string nma, .string ara, .string exa, .slice qa la ca] #[.int .u8 kb, .int .u8 opb, .int .i64 plb, .int .i64 nnb, .string nmb, .string arb, .string exb, .slice qb lb cb] v4 ∧ Below w4.heap.size w4 v4 := ⟨Hv2.out.1.later hkv4, Hv2.out.2.trans (hkv4.mono Hv2.out.2.size)⟩
        refine HK2.out _ _ hsv4 (fun hHeld => ?_)
        have Hv4 := Lib.hid hsv4; have Nv4 := Lib.hid hnv4; have Av4 := Lib.hid hkv4
        clear hsv4 hnv4 hkv4 HK2
        try simp only [Act.put, List.getElem_toArray, List.getElem_cons_succ, List.getElem_cons_zero, List.setIfInBounds_toArray, List.set_cons_zero, List.set_cons_succ]
        clear K
        refine wpAnyH_ready (rs := [6]) (by kernel_rfl) (by simp) ?_
        refine AllReadyH.cons rfl (fun K hK => ?_) AllReadyH.nil
        have HK2 := Lib.hid hK
        clear hK
        go_simp
        refine HK2.out _ _ Hv4.out (fun hHeld => ?_)
        clear HK2
        try simp only [Act.put, List.getElem_toArray, List.getElem_cons_succ, List.getElem_cons_zero, List.setIfInBounds_toArray, List.set_cons_zero, List.set_cons_succ]
        clear K
        refine wpAnyH_ready (rs := [7]) (by kernel_rfl) (by simp) ?_
        refine AllReadyH.cons rfl (fun K hK => ?_) AllReadyH.nil
        have HK2 := Lib.hid hK
        clear hK
        go_simp
        refine HK2.out _ _ Hv4.out (fun hHeld => ?_)
        clear HK2
        try simp only [Act.put, List.getElem_toArray, List.getElem_cons_succ, List.getElem_cons_zero, List.setIfInBounds_toArray, List.set_cons_zero, List.set_cons_succ]
        clear K
        refine wpAnyH_done (by kernel_rfl) ?_ _
        have hm := two_met HS0.out.1.lt (Av1.out.trans (Av3.out.mono Av1.out.size)) Nv2.out Av2.out (Below.refl _ _) Nv4.out Av4.out
        have HM := Lib.hid hm
        clear hm hHeld
        go_wp2_with (fail)
        go_meet
        exact ⟨_, _, rfl, rfl, Hv4.out.1, HM.out.1, HM.out.2.1, HM.out.2.2.1⟩
    · skip
      have HK2 := Lib.hid hK
      clear hK
      go_simp
      have hav1 : Below v0.heap.size v0 (v0.alloc (.cells #[.int .u8 ka, .int .u8 opa, .int .i64 pla, .int .i64 nna, .string nma, .string ara, .string exa, .slice qa la ca] 27)) := (Below.refl _ _).alloc (Nat.le_refl _) _
      have hbv1 : (v0.alloc (.cells #[.int .u8 ka, .int .u8 opa, .int .i64 pla, .int .i64 nna, .string nma, .string ara, .string exa, .slice qa la ca] 27)).heap[v0.heap.size]? = some (.cells #[.int .u8 ka, .int .u8 opa, .int .i64 pla, .int .i64 nna, .string nma, .string ara, .string exa, .slice qa la ca] 27 (0, 0)) := heap_alloc_new v0 _
      have hsv1 : Two w #[.int .u8 ka, .int .u8 opa, .int .i64 pla, .int .i64 nna, .string nma, .string ara, .string exa, .slice qa la ca] #[.int .u8 kb, .int .u8 opb, .int .i64 plb, .int .i64 nnb, .string nmb, .string arb, .string exb, .slice qb lb cb] (v0.alloc (.cells #[.int .u8 ka, .int .u8 opa, .int .i64 pla, .int .i64 nna, .string nma, .string ara, .string exa, .slice qa la ca] 27)) ∧ Below w4.heap.size w4 (v0.alloc (.cells #[.int .u8 ka, .int .u8 opa, .int .i64 pla, .int .i64 nna, .string nma, .string ara, .string exa, .slice qa la ca] 27)) := ⟨HS0.out.1.later hav1, HS0.out.2.trans (hav1.mono HS0.out.2.size)⟩
      refine HK2.out _ _ hsv1 (fun hHeld => ?_)
      generalize v0.alloc (.cells #[.int .u8 ka, .int .u8 opa, .int .i64 pla, .int .i64 nna, .string nma, .string ara, .string exa, .slice qa la ca] 27) = v1 at *
      have Hv1 := Lib.hid hsv1; have Av1 := Lib.hid hav1; have Bv1 := Lib.hid hbv1
      clear hsv1 hav1 hbv1 HK2
      try simp only [Act.put, List.getElem_toArray, List.getElem_cons_succ, List.getElem_cons_zero, List.setIfInBounds_toArray, List.set_cons_zero, List.set_cons_succ]
      clear K
      refine wpAnyH_ready (rs := [1]) (by kernel_rfl) (by simp) ?_
      refine AllReadyH.cons rfl (fun K hK => ?_) AllReadyH.nil
      have HK2 := Lib.hid hK
      clear hK
      go_simp
      have hav3 : Below v1.heap.size v1 (v1.alloc (.cells #[.int .u8 ka, .int .u8 opa, .int .i64 pla, .int .i64 nna, .string nma, .string ara, .string exa, .slice qa la ca] 27)) := (Below.refl _ _).alloc (Nat.le_refl _) _
      have hbv3 : (v1.alloc (.cells #[.int .u8 ka, .int .u8 opa, .int .i64 pla, .int .i64 nna, .string nma, .string ara, .string exa, .slice qa la ca] 27)).heap[v1.heap.size]? = some (.cells #[.int .u8 ka, .int .u8 opa, .int .i64 pla, .int .i64 nna, .string nma, .string ara, .string exa, .slice qa la ca] 27 (0, 0)) := heap_alloc_new v1 _
      have hsv3 : Two w #[.int .u8 ka, .int .u8 opa, .int .i64 pla, .int .i64 nna, .string nma, .string ara, .string exa, .slice qa la ca] #[.int .u8 kb, .int .u8 opb, .int .i64 plb, .int .i64 nnb, .string nmb, .string arb, .string exb, .slice qb lb cb] (v1.alloc (.cells #[.int .u8 ka, .int .u8 opa, .int .i64 pla, .int .i64 nna, .string nma, .string ara, .string exa, .slice qa la ca] 27)) ∧ Below w4.heap.size w4 (v1.alloc (.cells #[.int .u8 ka, .int .u8 opa, .int .i64 pla, .int .i64 nna, .string nma, .string ara, .string exa, .slice qa la ca] 27)) := ⟨Hv1.out.1.later hav3, Hv1.out.2.trans (hav3.mono Hv1.out.2.size)⟩
      refine HK2.out _ _ hsv3 (fun hHeld => ?_)
      generalize v1.alloc (.cells #[.int .u8 ka, .int .u8 opa, .int .i64 pla, .int .i64 nna, .string nma, .string ara, .string exa, .slice qa la ca] 27) = v3 at *
      have Hv3 := Lib.hid hsv3; have Av3 := Lib.hid hav3; have Bv3 := Lib.hid hbv3
      clear hsv3 hav3 hbv3 HK2
      try simp only [Act.put, List.getElem_toArray, List.getElem_cons_succ, List.getElem_cons_zero, List.setIfInBounds_toArray, List.set_cons_zero, List.set_cons_succ]
      clear K
      refine wpAnyH_ready (rs := [2]) (by kernel_rfl) (by simp) ?_
      refine AllReadyH.cons rfl (fun K hK => ?_) AllReadyH.nil
      have HK2 := Lib.hid hK
      clear hK
      go_simp
      refine (HFREE.out _ _ Hv3.out.1.below Bv3.out).mono ?_
      rintro e v2 ⟨u, rfl, hnv2, hkv2⟩
      have hsv2 : Two w #[.int .u8 ka, .int .u8 opa, .int .i64 pla, .int .i64 nna, .string nma, .string ara, .string exa, .slice qa la ca] #[.int .u8 kb, .int .u8 opb, .int .i64 plb, .int .i64 nnb, .string nmb, .string arb, .string exb, .slice qb lb cb] v2 ∧ Below w4.heap.size w4 v2 := ⟨Hv3.out.1.later hkv2, Hv3.out.2.trans (hkv2.mono Hv3.out.2.size)⟩
      refine HK2.out _ _ hsv2 (fun hHeld => ?_)
      have Hv2 := Lib.hid hsv2; have Nv2 := Lib.hid hnv2; have Av2 := Lib.hid hkv2
      clear hsv2 hnv2 hkv2 HK2
      try simp only [Act.put, List.getElem_toArray, List.getElem_cons_succ, List.getElem_cons_zero, List.setIfInBounds_toArray, List.set_cons_zero, List.set_cons_succ]
      clear K
      refine wpAnyH_ready (rs := [5]) (by kernel_rfl) (by simp) ?_
      refine AllReadyH.cons rfl (fun K hK => ?_) AllReadyH.nil
      have HK2 := Lib.hid hK
      clear hK
      go_simp
      refine (HEXN.out _ _ Hv2.out.1.below ((Av2.out.block _ (lt_of_block ((Av3.out.block _ (lt_of_block Bv1.out)).trans Bv1.out))).trans ((Av3.out.block _ (lt_of_block Bv1.out)).trans Bv1.out))).mono ?_
      rintro e v4 ⟨v, rfl, hnv4, hkv4⟩
      have hsv4 : Two w #[.int .u8 ka, .int .u8 opa, .int .i64 pla, .int .i64 nna, .string nma, .string ara, .string exa, .slice qa la ca] #[.int .u8 kb, .int .u8 opb, .int .i64 plb, .int .i64 nnb, .string nmb, .string arb, .string exb, .slice qb lb cb] v4 ∧ Below w4.heap.size w4 v4 := ⟨Hv2.out.1.later hkv4, Hv2.out.2.trans (hkv4.mono Hv2.out.2.size)⟩
      refine HK2.out _ _ hsv4 (fun hHeld => ?_)
      have Hv4 := Lib.hid hsv4; have Nv4 := Lib.hid hnv4; have Av4 := Lib.hid hkv4
      clear hsv4 hnv4 hkv4 HK2
      try simp only [Act.put, List.getElem_toArray, List.getElem_cons_succ, List.getElem_cons_zero, List.setIfInBounds_toArray, List.set_cons_zero, List.set_cons_succ]
      clear K
      refine wpAnyH_ready (rs := [6]) (by kernel_rfl) (by simp) ?_
      refine AllReadyH.cons rfl (fun K hK => ?_) AllReadyH.nil
      have HK2 := Lib.hid hK
      clear hK
      go_simp
      refine HK2.out _ _ Hv4.out (fun hHeld => ?_)
      clear HK2
      try simp only [Act.put, List.getElem_toArray, List.getElem_cons_succ, List.getElem_cons_zero, List.setIfInBounds_toArray, List.set_cons_zero, List.set_cons_succ]
      clear K
      refine wpAnyH_ready (rs := [7]) (by kernel_rfl) (by simp) ?_
      refine AllReadyH.cons rfl (fun K hK => ?_) AllReadyH.nil
      have HK2 := Lib.hid hK
      clear hK
      go_simp
      refine HK2.out _ _ Hv4.out (fun hHeld => ?_)
      clear HK2
      try simp only [Act.put, List.getElem_toArray, List.getElem_cons_succ, List.getElem_cons_zero, List.setIfInBounds_toArray, List.set_cons_zero, List.set_cons_succ]
      clear K
      refine wpAnyH_done (by kernel_rfl) ?_ _
      have hm := two_met HS0.out.1.lt (Av1.out.trans (Av3.out.mono Av1.out.size)) Nv2.out Av2.out (Below.refl _ _) Nv4.out Av4.out
      have HM := Lib.hid hm
      clear hm hHeld
      go_wp2_with (fail)
      go_meet
      exact ⟨_, _, rfl, rfl, Hv4.out.1, HM.out.1, HM.out.2.1, HM.out.2.2.1⟩
  case rest =>
    obtain ⟨vn, ve, rfl, rfl, hq1, hq2, hq3, hq4⟩ := hcut
    have H5 := Lib.hid hq1; have HN5 := Lib.hid hq2; have HE5 := Lib.hid hq3; have HD5 := Lib.hid hq4
    clear hq1 hq2 hq3 hq4 HFREE HEXN H2 H1 H2b H3 H4
    have HFREE := Lib.hid (HFB.out HWB.out); have HEXN := Lib.hid (HEB.out HWB.out)
    go_upto_region 4 with (fail)
    go_cut [7, 8] (fun s7 s8 wx => ∃ vm vx, vm = s7 ∧ vx = s8 ∧ Quad w #[.int .u8 ka, .int .u8 opa, .int .i64 pla, .int .i64 nna, .string nma, .string ara, .string exa, .slice qa la ca] #[.int .u8 kb, .int .u8 opb, .int .i64 plb, .int .i64 nnb, .string nmb, .string arb, .string exb, .slice qb lb cb] wx vn (metF freeP [ta]) ve (metF exnP [ta]) vm (metF freeP [tb]) vx (metF exnP [tb]))
    case first =>
      go_wp2_with (fail)
      refine wp_region_held_drew (S := fun V => Two w #[.int .u8 ka, .int .u8 opa, .int .i64 pla, .int .i64 nna, .string nma, .string ara, .string exa, .slice qa la ca] #[.int .u8 kb, .int .u8 opb, .int .i64 plb, .int .i64 nnb, .string nmb, .string arb, .string exb, .slice qb lb cb] V ∧ Below wc.heap.size wc V) (by kernel_rfl) ⟨H5.out.later (Below.refl _ _).drew, (Below.refl _ _).drew⟩ (fun hHeld => ?_)
      have HS0 : Hid (Two w #[.int .u8 ka, .int .u8 opa, .int .i64 pla, .int .i64 nna, .string nma, .string ara, .string exa, .slice qa la ca] #[.int .u8 kb, .int .u8 opb, .int .i64 plb, .int .i64 nnb, .string nmb, .string arb, .string exb, .slice qb lb cb] wc.drew ∧ Below wc.heap.size wc wc.drew) := Lib.hid ⟨H5.out.later (Below.refl _ _).drew, (Below.refl _ _).drew⟩
      generalize wc.drew = v0 at *
      refine wpAnyH_take (i := 0) (v := .agg #[.int .u8 kb, .int .u8 opb, .int .i64 plb, .int .i64 nnb, .string nmb, .string arb, .string exb, .slice qb lb cb]) rfl (by kernel_rfl) (by kernel_rfl) (by kernel_rfl) (fun _ _ _ h => h) (Or.inl ⟨by rfl, ?_⟩) (by assumption) ?_
      · intro w' hSw
        obtain ⟨⟨g0, g1, g2, g3, g4, g5, g6, g7⟩, e0, e1, e2, e3, e4, e5, e6, e7⟩ := cells8' hSw.1.b1
        first | go_simp | rfl
      try simp only [Act.put, List.getElem_toArray, List.getElem_cons_succ, List.getElem_cons_zero, List.setIfInBounds_toArray, List.set_cons_zero, List.set_cons_succ]
      refine wpAnyH_take (i := 3) (v := .agg #[.int .u8 kb, .int .u8 opb, .int .i64 plb, .int .i64 nnb, .string nmb, .string arb, .string exb, .slice qb lb cb]) rfl (by kernel_rfl) (by kernel_rfl) (by kernel_rfl) (fun _ _ _ h => h) (Or.inl ⟨by rfl, ?_⟩) (by assumption) ?_
      · intro w' hSw
        obtain ⟨⟨g0, g1, g2, g3, g4, g5, g6, g7⟩, e0, e1, e2, e3, e4, e5, e6, e7⟩ := cells8' hSw.1.b1
        first | go_simp | rfl
      try simp only [Act.put, List.getElem_toArray, List.getElem_cons_succ, List.getElem_cons_zero, List.setIfInBounds_toArray, List.set_cons_zero, List.set_cons_succ]
      refine wpAnyH_ready (rs := [1, 4]) (by kernel_rfl) (by simp) ?_
      refine AllReadyH.cons rfl (fun K hK => ?_) (AllReadyH.cons rfl (fun K hK => ?_) AllReadyH.nil)
      · skip
        have HK2 := Lib.hid hK
        clear hK
        go_simp
        have hav1 : Below v0.heap.size v0 (v0.alloc (.cells #[.int .u8 kb, .int .u8 opb, .int .i64 plb, .int .i64 nnb, .string nmb, .string arb, .string exb, .slice qb lb cb] 27)) := (Below.refl _ _).alloc (Nat.le_refl _) _
        have hbv1 : (v0.alloc (.cells #[.int .u8 kb, .int .u8 opb, .int .i64 plb, .int .i64 nnb, .string nmb, .string arb, .string exb, .slice qb lb cb] 27)).heap[v0.heap.size]? = some (.cells #[.int .u8 kb, .int .u8 opb, .int .i64 plb, .int .i64 nnb, .string nmb, .string arb, .string exb, .slice qb lb cb] 27 (0, 0)) := heap_alloc_new v0 _
        have hsv1 : Two w #[.int .u8 ka, .int .u8 opa, .int .i64 pla, .int .i64 nna, .string nma, .string ara, .string exa, .slice qa la ca] #[.int .u8 kb, .int .u8 opb, .int .i64 plb, .int .i64 nnb, .string nmb, .string arb, .string exb, .slice qb lb cb] (v0.alloc (.cells #[.int .u8 kb, .int .u8 opb, .int .i64 plb, .int .i64 nnb, .string nmb, .string arb, .string exb, .slice qb lb cb] 27)) ∧ Below wc.heap.size wc (v0.alloc (.cells #[.int .u8 kb, .int .u8 opb, .int .i64 plb, .int .i64 nnb, .string nmb, .string arb, .string exb, .slice qb lb cb] 27)) := ⟨HS0.out.1.later hav1, HS0.out.2.trans (hav1.mono HS0.out.2.size)⟩
        refine HK2.out _ _ hsv1 (fun hHeld => ?_)
        generalize v0.alloc (.cells #[.int .u8 kb, .int .u8 opb, .int .i64 plb, .int .i64 nnb, .string nmb, .string arb, .string exb, .slice qb lb cb] 27) = v1 at *
        have Hv1 := Lib.hid hsv1; have Av1 := Lib.hid hav1; have Bv1 := Lib.hid hbv1
        clear hsv1 hav1 hbv1 HK2
        try simp only [Act.put, List.getElem_toArray, List.getElem_cons_succ, List.getElem_cons_zero, List.setIfInBounds_toArray, List.set_cons_zero, List.set_cons_succ]
        clear K
        refine wpAnyH_ready (rs := [2, 4]) (by kernel_rfl) (by simp) ?_
        refine AllReadyH.cons rfl (fun K hK => ?_) (AllReadyH.cons rfl (fun K hK => ?_) AllReadyH.nil)
        · skip
          have HK2 := Lib.hid hK
          clear hK
          go_simp
          refine (HFREE.out _ _ Hv1.out.1.below Bv1.out).mono ?_
          rintro e v2 ⟨u, rfl, hnv2, hkv2⟩
          have hsv2 : Two w #[.int .u8 ka, .int .u8 opa, .int .i64 pla, .int .i64 nna, .string nma, .string ara, .string exa, .slice qa la ca] #[.int .u8 kb, .int .u8 opb, .int .i64 plb, .int .i64 nnb, .string nmb, .string arb, .string exb, .slice qb lb cb] v2 ∧ Below wc.heap.size wc v2 := ⟨Hv1.out.1.later hkv2, Hv1.out.2.trans (hkv2.mono Hv1.out.2.size)⟩
          refine HK2.out _ _ hsv2 (fun hHeld => ?_)
          have Hv2 := Lib.hid hsv2; have Nv2 := Lib.hid hnv2; have Av2 := Lib.hid hkv2
          clear hsv2 hnv2 hkv2 HK2
          try simp only [Act.put, List.getElem_toArray, List.getElem_cons_succ, List.getElem_cons_zero, List.setIfInBounds_toArray, List.set_cons_zero, List.set_cons_succ]
          clear K
          refine wpAnyH_ready (rs := [4]) (by kernel_rfl) (by simp) ?_
          refine AllReadyH.cons rfl (fun K hK => ?_) AllReadyH.nil
          have HK2 := Lib.hid hK
          clear hK
          go_simp
          have hav3 : Below v2.heap.size v2 (v2.alloc (.cells #[.int .u8 kb, .int .u8 opb, .int .i64 plb, .int .i64 nnb, .string nmb, .string arb, .string exb, .slice qb lb cb] 27)) := (Below.refl _ _).alloc (Nat.le_refl _) _
          have hbv3 : (v2.alloc (.cells #[.int .u8 kb, .int .u8 opb, .int .i64 plb, .int .i64 nnb, .string nmb, .string arb, .string exb, .slice qb lb cb] 27)).heap[v2.heap.size]? = some (.cells #[.int .u8 kb, .int .u8 opb, .int .i64 plb, .int .i64 nnb, .string nmb, .string arb, .string exb, .slice qb lb cb] 27 (0, 0)) := heap_alloc_new v2 _
          have hsv3 : Two w #[.int .u8 ka, .int .u8 opa, .int .i64 pla, .int .i64 nna, .string nma, .string ara, .string exa, .slice qa la ca] #[.int .u8 kb, .int .u8 opb, .int .i64 plb, .int .i64 nnb, .string nmb, .string arb, .string exb, .slice qb lb cb] (v2.alloc (.cells #[.int .u8 kb, .int .u8 opb, .int .i64 plb, .int .i64 nnb, .string nmb, .string arb, .string exb, .slice qb lb cb] 27)) ∧ Below wc.heap.size wc (v2.alloc (.cells #[.int .u8 kb, .int .u8 opb, .int .i64 plb, .int .i64 nnb, .string nmb, .string arb, .string exb, .slice qb lb cb] 27)) := ⟨Hv2.out.1.later hav3, Hv2.out.2.trans (hav3.mono Hv2.out.2.size)⟩
          refine HK2.out _ _ hsv3 (fun hHeld => ?_)
          generalize v2.alloc (.cells #[.int .u8 kb, .int .u8 opb, .int .i64 plb, .int .i64 nnb, .string nmb, .string arb, .string exb, .slice qb lb cb] 27) = v3 at *
          have Hv3 := Lib.hid hsv3; have Av3 := Lib.hid hav3; have Bv3 := Lib.hid hbv3
          clear hsv3 hav3 hbv3 HK2
          try simp only [Act.put, List.getElem_toArray, List.getElem_cons_succ, List.getElem_cons_zero, List.setIfInBounds_toArray, List.set_cons_zero, List.set_cons_succ]
          clear K
          refine wpAnyH_ready (rs := [5]) (by kernel_rfl) (by simp) ?_
          refine AllReadyH.cons rfl (fun K hK => ?_) AllReadyH.nil
          have HK2 := Lib.hid hK
          clear hK
          go_simp
          refine (HEXN.out _ _ Hv3.out.1.below Bv3.out).mono ?_
          rintro e v4 ⟨v, rfl, hnv4, hkv4⟩
          have hsv4 : Two w #[.int .u8 ka, .int .u8 opa, .int .i64 pla, .int .i64 nna, .string nma, .string ara, .string exa, .slice qa la ca] #[.int .u8 kb, .int .u8 opb, .int .i64 plb, .int .i64 nnb, .string nmb, .string arb, .string exb, .slice qb lb cb] v4 ∧ Below wc.heap.size wc v4 := ⟨Hv3.out.1.later hkv4, Hv3.out.2.trans (hkv4.mono Hv3.out.2.size)⟩
          refine HK2.out _ _ hsv4 (fun hHeld => ?_)
          have Hv4 := Lib.hid hsv4; have Nv4 := Lib.hid hnv4; have Av4 := Lib.hid hkv4
          clear hsv4 hnv4 hkv4 HK2
          try simp only [Act.put, List.getElem_toArray, List.getElem_cons_succ, List.getElem_cons_zero, List.setIfInBounds_toArray, List.set_cons_zero, List.set_cons_succ]
          clear K
          refine wpAnyH_ready (rs := [6]) (by kernel_rfl) (by simp) ?_
          refine AllReadyH.cons rfl (fun K hK => ?_) AllReadyH.nil
          have HK2 := Lib.hid hK
          clear hK
          go_simp
          refine HK2.out _ _ Hv4.out (fun hHeld => ?_)
          clear HK2
          try simp only [Act.put, List.getElem_toArray, List.getElem_cons_succ, List.getElem_cons_zero, List.setIfInBounds_toArray, List.set_cons_zero, List.set_cons_succ]
          clear K
          refine wpAnyH_ready (rs := [7]) (by kernel_rfl) (by simp) ?_
          refine AllReadyH.cons rfl (fun K hK => ?_) AllReadyH.nil
          have HK2 := Lib.hid hK
          clear hK
          go_simp
          refine HK2.out _ _ Hv4.out (fun hHeld => ?_)
          clear HK2
          try simp only [Act.put, List.getElem_toArray, List.getElem_cons_succ, List.getElem_cons_zero, List.setIfInBounds_toArray, List.set_cons_zero, List.set_cons_succ]
          clear K
          refine wpAnyH_done (by kernel_rfl) ?_ _
          have hm := two_met HS0.out.1.lt Av1.out Nv2.out Av2.out Av3.out Nv4.out Av4.out
          have HM := Lib.hid hm
          clear hm hHeld
          go_wp2_with (fail)
          go_meet
          exact ⟨_, _, rfl, rfl, quad_of HN5.out HE5.out HD5.out HS0.out.2.size Hv4.out.2 Hv4.out.1 HM.out⟩
        · skip
          have HK2 := Lib.hid hK
          clear hK
          go_simp
          have hav3 : Below v1.heap.size v1 (v1.alloc (.cells #[.int .u8 kb, .int .u8 opb, .int .i64 plb, .int .i64 nnb, .string nmb, .string arb, .string exb, .slice qb lb cb] 27)) := (Below.refl _ _).alloc (Nat.le_refl _) _
          have hbv3 : (v1.alloc (.cells #[.int .u8 kb, .int .u8 opb, .int .i64 plb, .int .i64 nnb, .string nmb, .string arb, .string exb, .slice qb lb cb] 27)).heap[v1.heap.size]? = some (.cells #[.int .u8 kb, .int .u8 opb, .int .i64 plb, .int .i64 nnb, .string nmb, .string arb, .string exb, .slice qb lb cb] 27 (0, 0)) := heap_alloc_new v1 _
          have hsv3 : Two w #[.int .u8 ka, .int .u8 opa, .int .i64 pla, .int .i64 nna, .string nma, .string ara, .string exa, .slice qa la ca] #[.int .u8 kb, .int .u8 opb, .int .i64 plb, .int .i64 nnb, .string nmb, .string arb, .string exb, .slice qb lb cb] (v1.alloc (.cells #[.int .u8 kb, .int .u8 opb, .int .i64 plb, .int .i64 nnb, .string nmb, .string arb, .string exb, .slice qb lb cb] 27)) ∧ Below wc.heap.size wc (v1.alloc (.cells #[.int .u8 kb, .int .u8 opb, .int .i64 plb, .int .i64 nnb, .string nmb, .string arb, .string exb, .slice qb lb cb] 27)) := ⟨Hv1.out.1.later hav3, Hv1.out.2.trans (hav3.mono Hv1.out.2.size)⟩
          refine HK2.out _ _ hsv3 (fun hHeld => ?_)
          generalize v1.alloc (.cells #[.int .u8 kb, .int .u8 opb, .int .i64 plb, .int .i64 nnb, .string nmb, .string arb, .string exb, .slice qb lb cb] 27) = v3 at *
          have Hv3 := Lib.hid hsv3; have Av3 := Lib.hid hav3; have Bv3 := Lib.hid hbv3
          clear hsv3 hav3 hbv3 HK2
          try simp only [Act.put, List.getElem_toArray, List.getElem_cons_succ, List.getElem_cons_zero, List.setIfInBounds_toArray, List.set_cons_zero, List.set_cons_succ]
          clear K
          refine wpAnyH_ready (rs := [2]) (by kernel_rfl) (by simp) ?_
          refine AllReadyH.cons rfl (fun K hK => ?_) AllReadyH.nil
          have HK2 := Lib.hid hK
          clear hK
          go_simp
          refine (HFREE.out _ _ Hv3.out.1.below ((Av3.out.block _ (lt_of_block Bv1.out)).trans Bv1.out)).mono ?_
          rintro e v2 ⟨u, rfl, hnv2, hkv2⟩
          have hsv2 : Two w #[.int .u8 ka, .int .u8 opa, .int .i64 pla, .int .i64 nna, .string nma, .string ara, .string exa, .slice qa la ca] #[.int .u8 kb, .int .u8 opb, .int .i64 plb, .int .i64 nnb, .string nmb, .string arb, .string exb, .slice qb lb cb] v2 ∧ Below wc.heap.size wc v2 := ⟨Hv3.out.1.later hkv2, Hv3.out.2.trans (hkv2.mono Hv3.out.2.size)⟩
          refine HK2.out _ _ hsv2 (fun hHeld => ?_)
          have Hv2 := Lib.hid hsv2; have Nv2 := Lib.hid hnv2; have Av2 := Lib.hid hkv2
          clear hsv2 hnv2 hkv2 HK2
          try simp only [Act.put, List.getElem_toArray, List.getElem_cons_succ, List.getElem_cons_zero, List.setIfInBounds_toArray, List.set_cons_zero, List.set_cons_succ]
          clear K
          refine wpAnyH_ready (rs := [5]) (by kernel_rfl) (by simp) ?_
          refine AllReadyH.cons rfl (fun K hK => ?_) AllReadyH.nil
          have HK2 := Lib.hid hK
          clear hK
          go_simp
          refine (HEXN.out _ _ Hv2.out.1.below ((Av2.out.block _ (lt_of_block Bv3.out)).trans Bv3.out)).mono ?_
          rintro e v4 ⟨v, rfl, hnv4, hkv4⟩
          have hsv4 : Two w #[.int .u8 ka, .int .u8 opa, .int .i64 pla, .int .i64 nna, .string nma, .string ara, .string exa, .slice qa la ca] #[.int .u8 kb, .int .u8 opb, .int .i64 plb, .int .i64 nnb, .string nmb, .string arb, .string exb, .slice qb lb cb] v4 ∧ Below wc.heap.size wc v4 := ⟨Hv2.out.1.later hkv4, Hv2.out.2.trans (hkv4.mono Hv2.out.2.size)⟩
          refine HK2.out _ _ hsv4 (fun hHeld => ?_)
          have Hv4 := Lib.hid hsv4; have Nv4 := Lib.hid hnv4; have Av4 := Lib.hid hkv4
          clear hsv4 hnv4 hkv4 HK2
          try simp only [Act.put, List.getElem_toArray, List.getElem_cons_succ, List.getElem_cons_zero, List.setIfInBounds_toArray, List.set_cons_zero, List.set_cons_succ]
          clear K
          refine wpAnyH_ready (rs := [6]) (by kernel_rfl) (by simp) ?_
          refine AllReadyH.cons rfl (fun K hK => ?_) AllReadyH.nil
          have HK2 := Lib.hid hK
          clear hK
          go_simp
          refine HK2.out _ _ Hv4.out (fun hHeld => ?_)
          clear HK2
          try simp only [Act.put, List.getElem_toArray, List.getElem_cons_succ, List.getElem_cons_zero, List.setIfInBounds_toArray, List.set_cons_zero, List.set_cons_succ]
          clear K
          refine wpAnyH_ready (rs := [7]) (by kernel_rfl) (by simp) ?_
          refine AllReadyH.cons rfl (fun K hK => ?_) AllReadyH.nil
          have HK2 := Lib.hid hK
          clear hK
          go_simp
          refine HK2.out _ _ Hv4.out (fun hHeld => ?_)
          clear HK2
          try simp only [Act.put, List.getElem_toArray, List.getElem_cons_succ, List.getElem_cons_zero, List.setIfInBounds_toArray, List.set_cons_zero, List.set_cons_succ]
          clear K
          refine wpAnyH_done (by kernel_rfl) ?_ _
          have hm := two_met HS0.out.1.lt (Av1.out.trans (Av3.out.mono Av1.out.size)) Nv2.out Av2.out (Below.refl _ _) Nv4.out Av4.out
          have HM := Lib.hid hm
          clear hm hHeld
          go_wp2_with (fail)
          go_meet
          exact ⟨_, _, rfl, rfl, quad_of HN5.out HE5.out HD5.out HS0.out.2.size Hv4.out.2 Hv4.out.1 HM.out⟩
      · skip
        have HK2 := Lib.hid hK
        clear hK
        go_simp
        have hav1 : Below v0.heap.size v0 (v0.alloc (.cells #[.int .u8 kb, .int .u8 opb, .int .i64 plb, .int .i64 nnb, .string nmb, .string arb, .string exb, .slice qb lb cb] 27)) := (Below.refl _ _).alloc (Nat.le_refl _) _
        have hbv1 : (v0.alloc (.cells #[.int .u8 kb, .int .u8 opb, .int .i64 plb, .int .i64 nnb, .string nmb, .string arb, .string exb, .slice qb lb cb] 27)).heap[v0.heap.size]? = some (.cells #[.int .u8 kb, .int .u8 opb, .int .i64 plb, .int .i64 nnb, .string nmb, .string arb, .string exb, .slice qb lb cb] 27 (0, 0)) := heap_alloc_new v0 _
        have hsv1 : Two w #[.int .u8 ka, .int .u8 opa, .int .i64 pla, .int .i64 nna, .string nma, .string ara, .string exa, .slice qa la ca] #[.int .u8 kb, .int .u8 opb, .int .i64 plb, .int .i64 nnb, .string nmb, .string arb, .string exb, .slice qb lb cb] (v0.alloc (.cells #[.int .u8 kb, .int .u8 opb, .int .i64 plb, .int .i64 nnb, .string nmb, .string arb, .string exb, .slice qb lb cb] 27)) ∧ Below wc.heap.size wc (v0.alloc (.cells #[.int .u8 kb, .int .u8 opb, .int .i64 plb, .int .i64 nnb, .string nmb, .string arb, .string exb, .slice qb lb cb] 27)) := ⟨HS0.out.1.later hav1, HS0.out.2.trans (hav1.mono HS0.out.2.size)⟩
        refine HK2.out _ _ hsv1 (fun hHeld => ?_)
        generalize v0.alloc (.cells #[.int .u8 kb, .int .u8 opb, .int .i64 plb, .int .i64 nnb, .string nmb, .string arb, .string exb, .slice qb lb cb] 27) = v1 at *
        have Hv1 := Lib.hid hsv1; have Av1 := Lib.hid hav1; have Bv1 := Lib.hid hbv1
        clear hsv1 hav1 hbv1 HK2
        try simp only [Act.put, List.getElem_toArray, List.getElem_cons_succ, List.getElem_cons_zero, List.setIfInBounds_toArray, List.set_cons_zero, List.set_cons_succ]
        clear K
        refine wpAnyH_ready (rs := [1]) (by kernel_rfl) (by simp) ?_
        refine AllReadyH.cons rfl (fun K hK => ?_) AllReadyH.nil
        have HK2 := Lib.hid hK
        clear hK
        go_simp
        have hav3 : Below v1.heap.size v1 (v1.alloc (.cells #[.int .u8 kb, .int .u8 opb, .int .i64 plb, .int .i64 nnb, .string nmb, .string arb, .string exb, .slice qb lb cb] 27)) := (Below.refl _ _).alloc (Nat.le_refl _) _
        have hbv3 : (v1.alloc (.cells #[.int .u8 kb, .int .u8 opb, .int .i64 plb, .int .i64 nnb, .string nmb, .string arb, .string exb, .slice qb lb cb] 27)).heap[v1.heap.size]? = some (.cells #[.int .u8 kb, .int .u8 opb, .int .i64 plb, .int .i64 nnb, .string nmb, .string arb, .string exb, .slice qb lb cb] 27 (0, 0)) := heap_alloc_new v1 _
        have hsv3 : Two w #[.int .u8 ka, .int .u8 opa, .int .i64 pla, .int .i64 nna, .string nma, .string ara, .string exa, .slice qa la ca] #[.int .u8 kb, .int .u8 opb, .int .i64 plb, .int .i64 nnb, .string nmb, .string arb, .string exb, .slice qb lb cb] (v1.alloc (.cells #[.int .u8 kb, .int .u8 opb, .int .i64 plb, .int .i64 nnb, .string nmb, .string arb, .string exb, .slice qb lb cb] 27)) ∧ Below wc.heap.size wc (v1.alloc (.cells #[.int .u8 kb, .int .u8 opb, .int .i64 plb, .int .i64 nnb, .string nmb, .string arb, .string exb, .slice qb lb cb] 27)) := ⟨Hv1.out.1.later hav3, Hv1.out.2.trans (hav3.mono Hv1.out.2.size)⟩
        refine HK2.out _ _ hsv3 (fun hHeld => ?_)
        generalize v1.alloc (.cells #[.int .u8 kb, .int .u8 opb, .int .i64 plb, .int .i64 nnb, .string nmb, .string arb, .string exb, .slice qb lb cb] 27) = v3 at *
        have Hv3 := Lib.hid hsv3; have Av3 := Lib.hid hav3; have Bv3 := Lib.hid hbv3
        clear hsv3 hav3 hbv3 HK2
        try simp only [Act.put, List.getElem_toArray, List.getElem_cons_succ, List.getElem_cons_zero, List.setIfInBounds_toArray, List.set_cons_zero, List.set_cons_succ]
        clear K
        refine wpAnyH_ready (rs := [2]) (by kernel_rfl) (by simp) ?_
        refine AllReadyH.cons rfl (fun K hK => ?_) AllReadyH.nil
        have HK2 := Lib.hid hK
        clear hK
        go_simp
        refine (HFREE.out _ _ Hv3.out.1.below Bv3.out).mono ?_
        rintro e v2 ⟨u, rfl, hnv2, hkv2⟩
        have hsv2 : Two w #[.int .u8 ka, .int .u8 opa, .int .i64 pla, .int .i64 nna, .string nma, .string ara, .string exa, .slice qa la ca] #[.int .u8 kb, .int .u8 opb, .int .i64 plb, .int .i64 nnb, .string nmb, .string arb, .string exb, .slice qb lb cb] v2 ∧ Below wc.heap.size wc v2 := ⟨Hv3.out.1.later hkv2, Hv3.out.2.trans (hkv2.mono Hv3.out.2.size)⟩
        refine HK2.out _ _ hsv2 (fun hHeld => ?_)
        have Hv2 := Lib.hid hsv2; have Nv2 := Lib.hid hnv2; have Av2 := Lib.hid hkv2
        clear hsv2 hnv2 hkv2 HK2
        try simp only [Act.put, List.getElem_toArray, List.getElem_cons_succ, List.getElem_cons_zero, List.setIfInBounds_toArray, List.set_cons_zero, List.set_cons_succ]
        clear K
        refine wpAnyH_ready (rs := [5]) (by kernel_rfl) (by simp) ?_
        refine AllReadyH.cons rfl (fun K hK => ?_) AllReadyH.nil
        have HK2 := Lib.hid hK
        clear hK
        go_simp
        refine (HEXN.out _ _ Hv2.out.1.below ((Av2.out.block _ (lt_of_block ((Av3.out.block _ (lt_of_block Bv1.out)).trans Bv1.out))).trans ((Av3.out.block _ (lt_of_block Bv1.out)).trans Bv1.out))).mono ?_
        rintro e v4 ⟨v, rfl, hnv4, hkv4⟩
        have hsv4 : Two w #[.int .u8 ka, .int .u8 opa, .int .i64 pla, .int .i64 nna, .string nma, .string ara, .string exa, .slice qa la ca] #[.int .u8 kb, .int .u8 opb, .int .i64 plb, .int .i64 nnb, .string nmb, .string arb, .string exb, .slice qb lb cb] v4 ∧ Below wc.heap.size wc v4 := ⟨Hv2.out.1.later hkv4, Hv2.out.2.trans (hkv4.mono Hv2.out.2.size)⟩
        refine HK2.out _ _ hsv4 (fun hHeld => ?_)
        have Hv4 := Lib.hid hsv4; have Nv4 := Lib.hid hnv4; have Av4 := Lib.hid hkv4
        clear hsv4 hnv4 hkv4 HK2
        try simp only [Act.put, List.getElem_toArray, List.getElem_cons_succ, List.getElem_cons_zero, List.setIfInBounds_toArray, List.set_cons_zero, List.set_cons_succ]
        clear K
        refine wpAnyH_ready (rs := [6]) (by kernel_rfl) (by simp) ?_
        refine AllReadyH.cons rfl (fun K hK => ?_) AllReadyH.nil
        have HK2 := Lib.hid hK
        clear hK
        go_simp
        refine HK2.out _ _ Hv4.out (fun hHeld => ?_)
        clear HK2
        try simp only [Act.put, List.getElem_toArray, List.getElem_cons_succ, List.getElem_cons_zero, List.setIfInBounds_toArray, List.set_cons_zero, List.set_cons_succ]
        clear K
        refine wpAnyH_ready (rs := [7]) (by kernel_rfl) (by simp) ?_
        refine AllReadyH.cons rfl (fun K hK => ?_) AllReadyH.nil
        have HK2 := Lib.hid hK
        clear hK
        go_simp
        refine HK2.out _ _ Hv4.out (fun hHeld => ?_)
        clear HK2
        try simp only [Act.put, List.getElem_toArray, List.getElem_cons_succ, List.getElem_cons_zero, List.setIfInBounds_toArray, List.set_cons_zero, List.set_cons_succ]
        clear K
        refine wpAnyH_done (by kernel_rfl) ?_ _
        have hm := two_met HS0.out.1.lt (Av1.out.trans (Av3.out.mono Av1.out.size)) Nv2.out Av2.out (Below.refl _ _) Nv4.out Av4.out
        have HM := Lib.hid hm
        clear hm hHeld
        go_wp2_with (fail)
        go_meet
        exact ⟨_, _, rfl, rfl, quad_of HN5.out HE5.out HD5.out HS0.out.2.size Hv4.out.2 Hv4.out.1 HM.out⟩
    case rest =>
      obtain ⟨vm, vx, rfl, rfl, hcut⟩ := hcut
      have HQ := Lib.hid hcut
      clear hcut H5 HN5 HE5 HD5 HFREE HEXN
      have hlf : (metF freeP [ta]).length ≤ 400 ∧ (metF freeP [tb]).length ≤ 400 ∧ (metF exnP [ta]).length ≤ 400 ∧ (metF exnP [tb]).length ≤ 400 := by
        have h1 := met_len freeP [ta]; have h2 := met_len freeP [tb]; have h3 := met_len exnP [ta]; have h4 := met_len exnP [tb]
        rw [wts_cons, wts_nil] at h1 h2 h3 h4
        have := HWA.out; have := HWB.out
        omega
      have HFF : Hid (metF freeP [ta, tb] = putL (metF freeP [tb]) (metF freeP [ta])) := Lib.hid (met_two _ ta tb HMAY.out HMBY.out)
      have HEE : Hid (metF exnP [ta, tb] = putL (metF exnP [tb]) (metF exnP [ta])) := Lib.hid (met_two _ ta tb HMAY.out HMBY.out)
      have HNF : Hid (∀ x ∈ metF freeP [tb], x ≠ ⟨#[]⟩) := Lib.hid (met_ne _ _)
      have HNE : Hid (∀ x ∈ metF exnP [tb], x ≠ ⟨#[]⟩) := Lib.hid (met_ne _ _)
      have HFAB' : Hid (∀ W b, Below w.heap.size w W → W.heap[b]? = some (.cells #[.int .u8 ka, .int .u8 opa, .int .i64 pla, .int .i64 nna, .string nma, .string ara, .string exa, .slice qa la ca, .int .u8 kb, .int .u8 opb, .int .i64 plb, .int .i64 nnb, .string nmb, .string arb, .string exb, .slice qb lb cb] 27 (0, 0)) → Calls Tryd.prog 14 #[.slice (some ⟨b, 0, none⟩) 2 2] W (MetEnd (metF freeP [ta, tb]) W)) := Lib.hid (HFAB.out HWA.out HWB.out)
      have HEAB' : Hid (∀ W b, Below w.heap.size w W → W.heap[b]? = some (.cells #[.int .u8 ka, .int .u8 opa, .int .i64 pla, .int .i64 nna, .string nma, .string ara, .string exa, .slice qa la ca, .int .u8 kb, .int .u8 opb, .int .i64 plb, .int .i64 nnb, .string nmb, .string arb, .string exb, .slice qb lb cb] 27 (0, 0)) → Calls Tryd.prog 16 #[.slice (some ⟨b, 0, none⟩) 2 2] W (MetEnd (metF exnP [ta, tb]) W)) := Lib.hid (HEAB.out HWA.out HWB.out)
      rw [HFF.out] at HFAB'
      rw [HEE.out] at HEAB'
      clear HFAB HEAB HFA HEA HFB HEB HGA HGB HMA HMB HFF HEE HMAY HMBY HWA HWB
      generalize metF freeP [ta] = fa at *
      generalize metF freeP [tb] = fb at *
      generalize metF exnP [ta] = ea at *
      generalize metF exnP [tb] = eb at *
      obtain ⟨pf, cf, rfl, hmf⟩ := HQ.out.nc.slice
      obtain ⟨pe, ce, rfl, hme⟩ := HQ.out.nd.slice
      unfold maxLen at hmf hme
      have HLF := Lib.hid hlf
      clear hlf
      go_wp2_with (fail)
      go_loopw [5, 9] (fun v i wr => ∃ (j : Nat) (vg : Value), vg = v ∧ j ≤ fb.length ∧ i = .int .i64 j ∧ Hid (Quad w #[.int .u8 ka, .int .u8 opa, .int .i64 pla, .int .i64 nna, .string nma, .string ara, .string exa, .slice qa la ca] #[.int .u8 kb, .int .u8 opb, .int .i64 plb, .int .i64 nnb, .string nmb, .string arb, .string exb, .slice qb lb cb] wr vg (putL (fb.take j) fa) ve ea (.slice pf fb.length cf) fb (.slice pe eb.length ce) eb)) (fun _ i _ => fb.length - (intOf i).toNat)
      case atStart => exact ⟨0, _, rfl, Nat.zero_le _, rfl, HQ⟩
      case round =>
        obtain ⟨j, vg, rfl, hj, rfl, HQJ⟩ := hrel
        by_cases hlt : j < fb.length
        · have hin := ref_in HQJ.out.na (sel fb j)
          have hsl := HQJ.out.nc.strs.2
          obtain ⟨b, o, rfl, hcs⟩ := hsl.get j hlt
          have hck := hcs j hlt
          have htk := put_take fb fa j hlt
          have hne := HNF.out _ (sel_mem' hlt)
          have hbl := World.block_lt_of_cell? wr _ hck
          simp only at hbl
          clear hcs hsl
          have hlen : (putL (fb.take j) fa).length ≤ 90000 := by
            have h1 := putL_len (fb.take j) fa
            have h2 := List.length_take_le j fb
            have := HLF.out
            omega
          generalize hy : sel fb j = y at *
          cases hh : hasB (putL (fb.take j) fa) y
          · rw [hh] at hin
            rw [put_new hh hne] at htk
            have hal := HQJ.out.later ((Below.refl wr.heap.size wr).alloc (Nat.le_refl _) (.cells #[.string y] 9))
            have HTK := Lib.hid htk; have HIN := Lib.hid hin; have HLN := Lib.hid hlen; have HAL := Lib.hid hal
            clear htk hin hlen hal hh hne hy
            go_wp2_with (fail)
            refine HIN.out.mono ?_
            rintro e wz ⟨rfl, rfl⟩
            go_wp2_with (at_builtin; go_loud (refine quad_append (x := y) rfl (.tmp 53) (.tmp 58) rfl HAL.out rfl wr.heap.size rfl (by rw [World.cell?_alloc_mark]; rfl) HLN.out ?_); intro v9 w9 h9; rw [← HTK.out] at h9; have H9 := Lib.hid h9; clear h9)
            go_roundw
            case rel => exact ⟨j + 1, _, rfl, by omega, by go_num, H9⟩
            case measure => simp [intOf]; omega
          · rw [hh] at hin
            rw [put_has hh] at htk
            have hq := HQJ.out
            rw [← htk] at hq
            have HIN := Lib.hid hin; have HQ2 := Lib.hid hq
            clear htk hin hlen hq hh hne hy
            go_wp2_with (fail)
            refine HIN.out.mono ?_
            rintro e wz ⟨rfl, rfl⟩
            go_wp2_with (fail)
            go_roundw
            case rel => exact ⟨j + 1, _, rfl, by omega, by go_num, HQ2⟩
            case measure => simp [intOf]; omega
        · obtain rfl : j = fb.length := by omega
          have hq := HQJ.out
          rw [List.take_length] at hq
          have HQE := Lib.hid hq.swap
          clear hq HQJ
          go_wp2_with (fail)
          go_loopw [6, 10] (fun v i wr => ∃ (j : Nat) (vg2 : Value), vg2 = v ∧ j ≤ eb.length ∧ i = .int .i64 j ∧ Hid (Quad w #[.int .u8 ka, .int .u8 opa, .int .i64 pla, .int .i64 nna, .string nma, .string ara, .string exa, .slice qa la ca] #[.int .u8 kb, .int .u8 opb, .int .i64 plb, .int .i64 nnb, .string nmb, .string arb, .string exb, .slice qb lb cb] wr vg2 (putL (eb.take j) ea) vg (putL fb fa) (.slice pe eb.length ce) eb (.slice pf fb.length cf) fb)) (fun _ i _ => eb.length - (intOf i).toNat)
          case atStart => exact ⟨0, _, rfl, Nat.zero_le _, rfl, HQE⟩
          case round =>
            obtain ⟨j, vg2, rfl, hj, rfl, HQJ⟩ := hrel
            by_cases hlt : j < eb.length
            · have hin := ref_in HQJ.out.na (sel eb j)
              have hsl := HQJ.out.nc.strs.2
              obtain ⟨b, o, rfl, hcs⟩ := hsl.get j hlt
              have hck := hcs j hlt
              have htk := put_take eb ea j hlt
              have hne := HNE.out _ (sel_mem' hlt)
              have hbl := World.block_lt_of_cell? wr _ hck
              simp only at hbl
              clear hcs hsl
              have hlen : (putL (eb.take j) ea).length ≤ 90000 := by
                have h1 := putL_len (eb.take j) ea
                have h2 := List.length_take_le j eb
                have := HLF.out
                omega
              generalize hy : sel eb j = y at *
              cases hh : hasB (putL (eb.take j) ea) y
              · rw [hh] at hin
                rw [put_new hh hne] at htk
                have hal := HQJ.out.later ((Below.refl wr.heap.size wr).alloc (Nat.le_refl _) (.cells #[.string y] 9))
                have HTK := Lib.hid htk; have HIN := Lib.hid hin; have HLN := Lib.hid hlen; have HAL := Lib.hid hal
                clear htk hin hlen hal hh hne hy
                go_wp2_with (fail)
                refine HIN.out.mono ?_
                rintro e wz ⟨rfl, rfl⟩
                go_wp2_with (at_builtin; go_loud (refine quad_append (x := y) rfl (.tmp 73) (.tmp 78) rfl HAL.out rfl wr.heap.size rfl (by rw [World.cell?_alloc_mark]; rfl) HLN.out ?_); intro v9 w9 h9; rw [← HTK.out] at h9; have H9 := Lib.hid h9; clear h9)
                go_roundw
                case rel => exact ⟨j + 1, _, rfl, by omega, by go_num, H9⟩
                case measure => simp [intOf]; omega
              · rw [hh] at hin
                rw [put_has hh] at htk
                have hq := HQJ.out
                rw [← htk] at hq
                have HIN := Lib.hid hin; have HQ2 := Lib.hid hq
                clear htk hin hlen hq hh hne hy
                go_wp2_with (fail)
                refine HIN.out.mono ?_
                rintro e wz ⟨rfl, rfl⟩
                go_wp2_with (fail)
                go_roundw
                case rel => exact ⟨j + 1, _, rfl, by omega, by go_num, HQ2⟩
                case measure => simp [intOf]; omega
            · obtain rfl : j = eb.length := by omega
              have hq := HQJ.out
              rw [List.take_length] at hq
              have HQE := Lib.hid hq.swap
              clear hq HQJ
              have H2 := Lib.hid HQE.out.two
              obtain ⟨⟨a0, a1, a2, a3, a4, a5, a6, a7⟩, d0, d1, d2, d3, d4, d5, d6, d7⟩ := cells8' H2.out.b0
              obtain ⟨⟨b0, b1, b2, b3, b4, b5, b6, b7⟩, f0, f1, f2, f3, f4, f5, f6, f7⟩ := cells8' H2.out.b1
              have al := lt_of_block H2.out.b0
              have bl := lt_of_block H2.out.b1
              have hal := (Below.refl wr.heap.size wr).alloc (Nat.le_refl _) (.cells #[.int .u8 ka, .int .u8 opa, .int .i64 pla, .int .i64 nna, .string nma, .string ara, .string exa, .slice qa la ca, .int .u8 kb, .int .u8 opb, .int .i64 plb, .int .i64 nnb, .string nmb, .string arb, .string exb, .slice qb lb cb] 27)
              have h3 := HQE.out.later hal
              have hcl := HFAB'.out _ _ h3.two.below (heap_alloc_new wr (.cells #[.int .u8 ka, .int .u8 opa, .int .i64 pla, .int .i64 nna, .string nma, .string ara, .string exa, .slice qa la ca, .int .u8 kb, .int .u8 opb, .int .i64 plb, .int .i64 nnb, .string nmb, .string arb, .string exb, .slice qb lb cb] 27))
              have HCL := Lib.hid hcl; have H3 := Lib.hid h3
              clear hal h3 hcl
              go_wp2_with (fail)
              refine HCL.out.mono ?_
              rintro e x1 ⟨v1, rfl, hn1, hk1⟩
              have h4 := H3.out.later hk1
              have hsm := ref_same hn1 h4.na
              rw [decide_eq_true rfl] at hsm
              have H4 := Lib.hid h4; have HS := Lib.hid hsm
              clear hn1 hk1 h4 hsm a0 a1 a2 a3 a4 a5 a6 a7 d0 d1 d2 d3 d4 d5 d6 d7 b0 b1 b2 b3 b4 b5 b6 b7 f0 f1 f2 f3 f4 f5 f6 f7 al bl
              go_wp2_with (fail)
              refine HS.out.mono ?_
              rintro e x2 ⟨rfl, hk2⟩
              have H5 := Lib.hid (H4.out.later hk2)
              have H5t := Lib.hid H5.out.two
              clear hk2
              obtain ⟨⟨a0, a1, a2, a3, a4, a5, a6, a7⟩, d0, d1, d2, d3, d4, d5, d6, d7⟩ := cells8' H5t.out.b0
              obtain ⟨⟨b0, b1, b2, b3, b4, b5, b6, b7⟩, f0, f1, f2, f3, f4, f5, f6, f7⟩ := cells8' H5t.out.b1
              have al := lt_of_block H5t.out.b0
              have bl := lt_of_block H5t.out.b1
              have hal := (Below.refl x2.heap.size x2).alloc (Nat.le_refl _) (.cells #[.int .u8 ka, .int .u8 opa, .int .i64 pla, .int .i64 nna, .string nma, .string ara, .string exa, .slice qa la ca, .int .u8 kb, .int .u8 opb, .int .i64 plb, .int .i64 nnb, .string nmb, .string arb, .string exb, .slice qb lb cb] 27)
              have h6 := H5.out.later hal
              have hcl := HEAB'.out _ _ h6.two.below (heap_alloc_new x2 (.cells #[.int .u8 ka, .int .u8 opa, .int .i64 pla, .int .i64 nna, .string nma, .string ara, .string exa, .slice qa la ca, .int .u8 kb, .int .u8 opb, .int .i64 plb, .int .i64 nnb, .string nmb, .string arb, .string exb, .slice qb lb cb] 27))
              have HCL2 := Lib.hid hcl; have H6 := Lib.hid h6
              clear hal h6 hcl
              go_wp2_with (fail)
              refine HCL2.out.mono ?_
              rintro e x3 ⟨v3, rfl, hn3, hk3⟩
              have h7 := H6.out.later hk3
              have hsm := ref_same hn3 h7.nb
              rw [decide_eq_true rfl] at hsm
              have H7 := Lib.hid h7; have HS2 := Lib.hid hsm
              clear hn3 hk3 h7 hsm a0 a1 a2 a3 a4 a5 a6 a7 d0 d1 d2 d3 d4 d5 d6 d7 b0 b1 b2 b3 b4 b5 b6 b7 f0 f1 f2 f3 f4 f5 f6 f7 al bl
              go_wp2_with (fail)
              refine HS2.out.mono ?_
              rintro e x4 ⟨rfl, hk4⟩
              have H8 := Lib.hid (H7.out.later hk4).two
              clear hk4
              go_wp2_with (fail)
              refine (HAW.out _ H8.out.below).mono ?_
              rintro e x5 ⟨rfl, hk5⟩
              have H9 := Lib.hid (H8.out.later hk5)
              clear hk5
              go_wp2_with (fail)
              go_ret
              exact ⟨rfl, H9.out.below⟩
end Scope
end Go.Proofs.YtkcadkjpneoobaaDoor
