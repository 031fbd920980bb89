/- The walk of layer 8's statement on the texts of a pair's type and of a reference's. -/
import Derived.Test.YtgcnibipikondaaDoorTyAwake
import Derived.Test.YtgcnibipikondaaDoorTyRefB
import Derived.Test.YtgcnibipikondaaDoorTyOf2
namespace Go.Proofs.YtgcnibipikondaaDoor
open Go.RowKit
set_option linter.unusedVariables false
set_option linter.unusedSimpArgs false
namespace Types

theorem may_pair {t u : Ty} (ht : mayT t = true) (hu : mayT u = true) : mayT (.node ⟨2, 0⟩ [t, u]) = true := by
  show allT nodeB _ = true
  rw [allT_eq]
  simp only [Ty.h, Ty.ks]
  rw [allK_cons, allK_cons, allK_nil, show allT nodeB t = true from ht, show allT nodeB u = true from hu]
  simp [nodeB, kidsN]
theorem may_ref {t : Ty} (ht : mayT t = true) : mayT (.node ⟨3, 0⟩ [t]) = true := by
  show allT nodeB _ = true
  rw [allT_eq]
  simp only [Ty.h, Ty.ks]
  rw [allK_cons, allK_nil, show allT nodeB t = true from ht]
  simp [nodeB, kidsN]
theorem words_pair (a b : Ty) : wordsT (.node ⟨2, 0⟩ [a, b]) = wOpen :: (wordsT a ++ (wStar :: (wordsT b ++ [wShut]))) := by
  rw [wordsT_eq]; simp only [Ty.h, Ty.ks, wordsK_cons, wordsK_nil]; rfl
theorem words_refpair (a b : Ty) : wordsT (.node ⟨3, 0⟩ [.node ⟨2, 0⟩ [a, b]]) = wRef :: wordsT (.node ⟨2, 0⟩ [a, b]) := by
  rw [wordsT_eq]; simp only [Ty.h, Ty.ks, wordsK_cons, wordsK_nil]; rfl
theorem text_pair {t u : Ty} (ht : mayT t = true) (hu : mayT u = true) : ((((⟨#[40, 32]⟩ : ByteArray) ++ jb (wordsT t)) ++ ⟨#[32, 42, 32]⟩) ++ jb (wordsT u)) ++ ⟨#[32, 41]⟩ = jb (wordsT (.node ⟨2, 0⟩ [t, u])) := by
  have n1 := words_nil ht
  have n2 := words_nil hu
  rw [words_pair]
  apply bl_inj
  simp [bl_append, bl_app, bl_cons, bl_one, List.append_assoc, n1, n2]
  try simp [bl, wOpen, wShut, wStar]
theorem text_refpair {t u : Ty} (ht : mayT t = true) (hu : mayT u = true) : (⟨#[114, 101, 102, 32]⟩ : ByteArray) ++ jb (wordsT (.node ⟨2, 0⟩ [t, u])) = jb (wordsT (.node ⟨3, 0⟩ [.node ⟨2, 0⟩ [t, u]])) := by
  have n1 := words_nil (may_pair ht hu)
  rw [words_refpair]
  apply bl_inj
  simp [bl_append, bl_app, bl_cons, bl_one, List.append_assoc, n1]
  try simp [bl, wRef]
theorem wt_pair (t u : Ty) : wt (.node ⟨2, 0⟩ [t, u]) = wt t + wt u + 1 := by rw [wt_ks]; simp only [Ty.ks]; rw [wts_cons, wts_cons, wts_nil]; omega
theorem wt_refpair (t u : Ty) : wt (.node ⟨3, 0⟩ [.node ⟨2, 0⟩ [t, u]]) = wt t + wt u + 2 := by rw [wt_ks]; simp only [Ty.ks]; rw [wts_cons, wts_nil, wt_pair]
theorem text_bound {w : World} {h : Hd} {p : Option Addr} {l c : Nat} {t : Ty} (hT : TyIs w h p l c t) (hw : wt t ≤ 2000) (hm : mayT t = true) : (jb (wordsT t)).size ≤ 132000 := by
  have := text_size hT hm; omega

set_option maxRecDepth 10000 in
set_option maxHeartbeats 25600000 in
theorem typesParts_walk (h : Hd) (p : Option Addr) (l c : Nat) (t : Ty) (h' : Hd) (p' : Option Addr) (l' c' : Nat) (u : Ty) (w : World) (hT : TyIs w h p l c t) (hU : TyIs w h' p' l' c' u) (hl : Laid w) :
    Calls Tryd.prog 7 #[.agg #[.int .u8 h.k, .int .i64 h.v, .slice p l c], .agg #[.int .u8 h'.k, .int .i64 h'.v, .slice p' l' c']] w fun e w' => e = .returned (.bool true) ∧ Below w.heap.size w w' := by
  have haw := fun W (hb : Below w.heap.size w W) => awake_walk W (hl.below hb)
  have hg1 := fun W (hb : Below w.heap.size w W) => great_walk t h p l c W (hT.below hb)
  have hg2 := fun W (hb : Below w.heap.size w W) => great_walk u h' p' l' c' W (hU.below hb)
  have hm1 := fun W (hb : Below w.heap.size w W) => refMay_walk _ t h p l c W (Nat.le_refl _) (hT.below hb)
  have hm2 := fun W (hb : Below w.heap.size w W) => refMay_walk _ u h' p' l' c' W (Nat.le_refl _) (hU.below hb)
  have hx1 := fun (hw : wt t ≤ 2000) W (hb : Below w.heap.size w W) => text_walk t h p l c W (hT.below hb) hw (hl.1.below hb) (hl.2.below hb)
  have hx2 := fun (hw : wt u ≤ 2000) W (hb : Below w.heap.size w W) => text_walk u h' p' l' c' W (hU.below hb) hw (hl.1.below hb) (hl.2.below hb)
  have hp := fun (hw : wt t + wt u ≤ 50000) W (hb : Below w.heap.size w W) => pair_walk t u h h' p p' l c l' c' W (hT.below hb) (hU.below hb) hw
  have hb1 := @text_bound w h p l c t hT
  have hb2 := @text_bound w h' p' l' c' u hU
  obtain ⟨k, v⟩ := h
  obtain ⟨k', v'⟩ := h'
  have hX : ∀ W, Below ((w.alloc (.cells #[.int .u8 k, .int .i64 v, .slice p l c] 24)).alloc (.cells #[.int .u8 k', .int .i64 v', .slice p' l' c'] 24)).heap.size ((w.alloc (.cells #[.int .u8 k, .int .i64 v, .slice p l c] 24)).alloc (.cells #[.int .u8 k', .int .i64 v', .slice p' l' c'] 24)) W →
      (W.cell? ⟨w.heap.size, 0, none⟩ = some (.int .u8 k) ∧ W.cell? ⟨w.heap.size, 1, none⟩ = some (.int .i64 v) ∧ W.cell? ⟨w.heap.size, 2, none⟩ = some (.slice p l c)) ∧ (W.cell? ⟨w.heap.size + 1, 0, none⟩ = some (.int .u8 k') ∧ W.cell? ⟨w.heap.size + 1, 1, none⟩ = some (.int .i64 v') ∧ W.cell? ⟨w.heap.size + 1, 2, none⟩ = some (.slice p' l' c')) := fun W hb =>
    ⟨box3 rfl ((box_new _).trans (hb.mono (by simp))), box3 (by simp) hb⟩
  have hB : ∀ W, Below ((w.alloc (.cells #[.int .u8 k, .int .i64 v, .slice p l c] 24)).alloc (.cells #[.int .u8 k', .int .i64 v', .slice p' l' c'] 24)).heap.size ((w.alloc (.cells #[.int .u8 k, .int .i64 v, .slice p l c] 24)).alloc (.cells #[.int .u8 k', .int .i64 v', .slice p' l' c'] 24)) W → Below w.heap.size w W := fun W hb =>
    ((box_new _).trans ((box_new _).mono (by simp))).trans (hb.mono (by simp; omega))
  have HAW := Lib.hid haw; have HG1 := Lib.hid hg1; have HG2 := Lib.hid hg2; have HM1 := Lib.hid hm1; have HM2 := Lib.hid hm2; have HX1 := Lib.hid hx1; have HX2 := Lib.hid hx2; have HP := Lib.hid hp; have HX := Lib.hid hX; have HB := Lib.hid hB
  have HL := Lib.hid hl; have HB1 := Lib.hid hb1; have HB2 := Lib.hid hb2
  clear haw hg1 hg2 hm1 hm2 hx1 hx2 hp hX hB hT hU hl hb1 hb2
  have HI := Lib.hid (Below.refl ((w.alloc (.cells #[.int .u8 k, .int .i64 v, .slice p l c] 24)).alloc (.cells #[.int .u8 k', .int .i64 v', .slice p' l' c'] 24)).heap.size ((w.alloc (.cells #[.int .u8 k, .int .i64 v, .slice p l c] 24)).alloc (.cells #[.int .u8 k', .int .i64 v', .slice p' l' c'] 24)))
  go_enter Tryd.func7, Tryd.ntmps7
  go_wp2_with (fail)
  refine (HG1.out _ (HB.out _ HI.out)).mono ?_
  rintro e w1 ⟨rfl, hb1⟩
  have HI1 := Lib.hid (below_then HI.out hb1 HI.out.size)
  obtain ⟨⟨a0, a1, a2⟩, b0, b1, b2⟩ := HX.out _ HI1.out
  clear hb1
  cases hg1 : greatB t
  · have HW1 := Lib.hid (small_of hg1)
    clear hg1
    go_wp2_with (fail)
    clear a0 a1 a2 b0 b1 b2
    refine (HG2.out _ (HB.out _ HI1.out)).mono ?_
    rintro e w2 ⟨rfl, hb2⟩
    have HI2 := Lib.hid (below_then HI1.out hb2 HI1.out.size)
    obtain ⟨⟨a0, a1, a2⟩, b0, b1, b2⟩ := HX.out _ HI2.out
    clear hb2
    cases hg2 : greatB u
    · have HW2 := Lib.hid (small_of hg2)
      clear hg2
      go_wp2_with (fail)
      clear a0 a1 a2 b0 b1 b2
      refine (HM1.out _ (HB.out _ HI2.out)).mono ?_
      rintro e w3 ⟨rfl, hb3⟩
      have HI3 := Lib.hid (below_then HI2.out hb3 HI2.out.size)
      obtain ⟨⟨a0, a1, a2⟩, b0, b1, b2⟩ := HX.out _ HI3.out
      clear hb3
      cases hm1 : mayT t
      · clear hm1
        go_wp2_with (fail)
        clear a0 a1 a2 b0 b1 b2
        refine (HAW.out _ (HB.out _ HI3.out)).mono ?_
        rintro e w4 ⟨rfl, hb4⟩
        have HI4 := Lib.hid (below_then HI3.out hb4 HI3.out.size)
        obtain ⟨⟨a0, a1, a2⟩, b0, b1, b2⟩ := HX.out _ HI4.out
        clear hb4
        clear a0 a1 a2 b0 b1 b2
        go_wp2_with (fail)
        go_ret
        exact ⟨rfl, HB.out _ HI4.out⟩
      · have HQ1 := Lib.hid hm1
        clear hm1
        go_wp2_with (fail)
        clear a0 a1 a2 b0 b1 b2
        refine (HM2.out _ (HB.out _ HI3.out)).mono ?_
        rintro e w5 ⟨rfl, hb5⟩
        have HI5 := Lib.hid (below_then HI3.out hb5 HI3.out.size)
        obtain ⟨⟨a0, a1, a2⟩, b0, b1, b2⟩ := HX.out _ HI5.out
        clear hb5
        cases hm2 : mayT u
        · clear hm2
          go_wp2_with (fail)
          clear a0 a1 a2 b0 b1 b2
          refine (HAW.out _ (HB.out _ HI5.out)).mono ?_
          rintro e w6 ⟨rfl, hb6⟩
          have HI6 := Lib.hid (below_then HI5.out hb6 HI5.out.size)
          obtain ⟨⟨a0, a1, a2⟩, b0, b1, b2⟩ := HX.out _ HI6.out
          clear hb6
          clear a0 a1 a2 b0 b1 b2
          go_wp2_with (fail)
          go_ret
          exact ⟨rfl, HB.out _ HI6.out⟩
        · have HQ2 := Lib.hid hm2
          clear hm2
          go_wp2_with (fail)
          clear a0 a1 a2 b0 b1 b2
          refine ((HX1.out (by have := HW1.out; omega)) _ (HB.out _ HI5.out)).mono ?_
          rintro e w7 ⟨rfl, hb7⟩
          have HI7 := Lib.hid (below_then HI5.out hb7 HI5.out.size)
          obtain ⟨⟨a0, a1, a2⟩, b0, b1, b2⟩ := HX.out _ HI7.out
          clear hb7
          rw [(text_yes HQ1.out).1, (text_yes HQ1.out).2]
          go_wp2_with (fail)
          clear a0 a1 a2 b0 b1 b2
          refine ((HX2.out (by have := HW2.out; omega)) _ (HB.out _ HI7.out)).mono ?_
          rintro e w8 ⟨rfl, hb8⟩
          have HI8 := Lib.hid (below_then HI7.out hb8 HI7.out.size)
          obtain ⟨⟨a0, a1, a2⟩, b0, b1, b2⟩ := HX.out _ HI8.out
          clear hb8
          rw [(text_yes HQ2.out).1, (text_yes HQ2.out).2]
          go_wp2_with (fail)
          clear a0 a1 a2 b0 b1 b2
          refine (HP.out (by have := HW1.out; have := HW2.out; omega) _ (HB.out _ HI8.out)).mono ?_
          rintro e w9 ⟨qp, cp, rfl, hTp, hb9⟩
          have HI9 := Lib.hid (below_then HI8.out hb9 HI8.out.size)
          have HTp := Lib.hid (hTp.reads' (veil_reads _ _))
          obtain ⟨⟨a0, a1, a2⟩, b0, b1, b2⟩ := HX.out _ HI9.out
          clear hb9 hTp
          go_wp2_with (fail)
          clear a0 a1 a2 b0 b1 b2
          refine (text_walk _ _ _ _ _ _ HTp.out (by rw [wt_pair]; have := HW1.out; have := HW2.out; omega) (HL.out.1.below (HB.out _ HI9.out)) (HL.out.2.below (HB.out _ HI9.out))).mono ?_
          rintro e w10 ⟨rfl, hb10⟩
          have HI10 := Lib.hid (below_then HI9.out hb10 HI9.out.size)
          obtain ⟨⟨a0, a1, a2⟩, b0, b1, b2⟩ := HX.out _ HI10.out
          clear hb10
          rw [(text_yes (may_pair HQ1.out HQ2.out)).1, (text_yes (may_pair HQ1.out HQ2.out)).2]
          have hsp := text_bound HTp.out (by rw [wt_pair]; have := HW1.out; have := HW2.out; omega) (may_pair HQ1.out HQ2.out)
          have HSP := Lib.hid hsp
          clear hsp
          go_wp2_with (fail)
          clear a0 a1 a2 b0 b1 b2
          refine (HP.out (by have := HW1.out; have := HW2.out; omega) _ (HB.out _ HI10.out)).mono ?_
          rintro e w11 ⟨qr, cr, rfl, hTr, hb11⟩
          have HI11 := Lib.hid (below_then HI10.out hb11 HI10.out.size)
          have HTr := Lib.hid (hTr.reads' (veil_reads _ _))
          obtain ⟨⟨a0, a1, a2⟩, b0, b1, b2⟩ := HX.out _ HI11.out
          clear hb11 hTr
          go_wp2_with (fail)
          clear a0 a1 a2 b0 b1 b2
          refine (ref_walk _ _ _ _ _ _ HTr.out (by rw [wt_pair]; have := HW1.out; have := HW2.out; omega)).mono ?_
          rintro e w12 ⟨qs, cs, rfl, hTs, hb12⟩
          have HI12 := Lib.hid (below_then HI11.out hb12 HI11.out.size)
          have HTs := Lib.hid (hTs.reads' (veil_reads _ _))
          obtain ⟨⟨a0, a1, a2⟩, b0, b1, b2⟩ := HX.out _ HI12.out
          clear hb12 hTs
          go_wp2_with (fail)
          clear a0 a1 a2 b0 b1 b2
          refine (text_walk _ _ _ _ _ _ HTs.out (by rw [wt_refpair]; have := HW1.out; have := HW2.out; omega) (HL.out.1.below (HB.out _ HI12.out)) (HL.out.2.below (HB.out _ HI12.out))).mono ?_
          rintro e w13 ⟨rfl, hb13⟩
          have HI13 := Lib.hid (below_then HI12.out hb13 HI12.out.size)
          obtain ⟨⟨a0, a1, a2⟩, b0, b1, b2⟩ := HX.out _ HI13.out
          clear hb13
          rw [(text_yes (may_ref (may_pair HQ1.out HQ2.out))).1, (text_yes (may_ref (may_pair HQ1.out HQ2.out))).2]
          have e1 := text_pair HQ1.out HQ2.out
          have e2 := text_refpair HQ1.out HQ2.out
          have z1 := HB1.out (by have := HW1.out; omega) HQ1.out
          have z2 := HB2.out (by have := HW2.out; omega) HQ2.out
          have z3 := HSP.out
          generalize jb (wordsT (.node ⟨3, 0⟩ [.node ⟨2, 0⟩ [t, u]])) = R at *
          generalize jb (wordsT (.node ⟨2, 0⟩ [t, u])) = Q at *
          generalize jb (wordsT t) = A at *
          generalize jb (wordsT u) = B at *
          subst e2 e1
          have ar1 := add_run ⟨#[40, 32]⟩ A _ rfl (by simp only [ByteArray.size_append] at *; omega)
          have ar2 := add_run (⟨#[40, 32]⟩ ++ A) ⟨#[32, 42, 32]⟩ _ rfl (by simp only [ByteArray.size_append] at *; omega)
          have ar3 := add_run ((⟨#[40, 32]⟩ ++ A) ++ ⟨#[32, 42, 32]⟩) B _ rfl (by simp only [ByteArray.size_append] at *; omega)
          have ar4 := add_run (((⟨#[40, 32]⟩ ++ A) ++ ⟨#[32, 42, 32]⟩) ++ B) ⟨#[32, 41]⟩ _ rfl (by simp only [ByteArray.size_append] at *; omega)
          have ar5 := add_run ⟨#[114, 101, 102, 32]⟩ ((((⟨#[40, 32]⟩ ++ A) ++ ⟨#[32, 42, 32]⟩) ++ B) ++ ⟨#[32, 41]⟩) _ rfl (by simp only [ByteArray.size_append] at *; have : (⟨#[114, 101, 102, 32]⟩ : ByteArray).size = 4 := rfl; omega)
          clear z1 z2 z3 HSP HB1 HB2
          generalize hX1 : (⟨#[40, 32]⟩ ++ A : ByteArray) = X1 at *
          generalize hX2 : (X1 ++ ⟨#[32, 42, 32]⟩ : ByteArray) = X2 at *
          generalize hX3 : (X2 ++ B : ByteArray) = X3 at *
          generalize hX4 : (X3 ++ ⟨#[32, 41]⟩ : ByteArray) = X4 at *
          generalize hX5 : (⟨#[114, 101, 102, 32]⟩ ++ X4 : ByteArray) = X5 at *
          have s1 : (X4.toList == X4.toList) = true := by simp
          have s2 : (X5.toList == X5.toList) = true := by simp
          clear hX1 hX2 hX3 hX4 hX5
          go_wp2_with (fail)
          clear a0 a1 a2 b0 b1 b2
          refine (HAW.out _ (HB.out _ HI13.out)).mono ?_
          rintro e w14 ⟨rfl, hb14⟩
          have HI14 := Lib.hid (below_then HI13.out hb14 HI13.out.size)
          obtain ⟨⟨a0, a1, a2⟩, b0, b1, b2⟩ := HX.out _ HI14.out
          clear hb14
          clear a0 a1 a2 b0 b1 b2
          go_wp2_with (fail)
          go_ret
          exact ⟨rfl, HB.out _ HI14.out⟩
    · clear hg2
      go_wp2_with (fail)
      clear a0 a1 a2 b0 b1 b2
      refine (HAW.out _ (HB.out _ HI2.out)).mono ?_
      rintro e w15 ⟨rfl, hb15⟩
      have HI15 := Lib.hid (below_then HI2.out hb15 HI2.out.size)
      obtain ⟨⟨a0, a1, a2⟩, b0, b1, b2⟩ := HX.out _ HI15.out
      clear hb15
      clear a0 a1 a2 b0 b1 b2
      go_wp2_with (fail)
      go_ret
      exact ⟨rfl, HB.out _ HI15.out⟩
  · clear hg1
    go_wp2_with (fail)
    clear a0 a1 a2 b0 b1 b2
    refine (HAW.out _ (HB.out _ HI1.out)).mono ?_
    rintro e w16 ⟨rfl, hb16⟩
    have HI16 := Lib.hid (below_then HI1.out hb16 HI1.out.size)
    obtain ⟨⟨a0, a1, a2⟩, b0, b1, b2⟩ := HX.out _ HI16.out
    clear hb16
    clear a0 a1 a2 b0 b1 b2
    go_wp2_with (fail)
    go_ret
    exact ⟨rfl, HB.out _ HI16.out⟩
end Types
end Go.Proofs.YtgcnibipikondaaDoor
