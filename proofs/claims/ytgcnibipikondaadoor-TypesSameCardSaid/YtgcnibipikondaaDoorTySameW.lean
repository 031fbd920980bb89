/- The walk of layer 8's statement on which types are the same. -/
import Derived.Test.YtgcnibipikondaaDoorTyAwake
import Derived.Test.YtgcnibipikondaaDoorTyRefB
import Derived.Test.YtgcnibipikondaaDoorTySameP
import Derived.Test.YtgcnibipikondaaDoorTyInj
namespace Go.Proofs.YtgcnibipikondaaDoor
open Go.RowKit
set_option linter.unusedVariables false
namespace Types

theorem str_yes {s t : ByteArray} (h : s = t) : (s.toList == t.toList) = true := by rw [h]; simp
theorem str_no {s t : ByteArray} (h : s ≠ t) : (s.toList == t.toList) = false := by
  rw [Lib.toList_data, Lib.toList_data, beq_eq_false_iff_ne]
  exact fun e => h (bytes_ext e)
/-- Two closed types have one text just if they are the same. -/
theorem text_same {t u : Ty} (ct : closedT t = true) (cu : closedT u = true) : ((textS t).toList == (textS u).toList) = sameT t u := by
  rw [closed_eq, Bool.and_eq_true] at ct cu
  obtain ⟨m1, h1⟩ := ct
  obtain ⟨m2, h2⟩ := cu
  cases hs : sameT t u
  · apply str_no
    intro e
    rw [(text_yes m1).1, (text_yes m2).1] at e
    have := text_inj m1 m2 (by simpa using h1) (by simpa using h2) e
    rw [(same_iff t u).2 this] at hs
    cases hs
  · rw [(same_iff t u).1 hs]
    exact str_yes rfl
theorem textE_no {t : Ty} (h : mayT t = false) : textE t = 1 := (text_no h).2
theorem textE_yes {t : Ty} (h : mayT t = true) : textE t = 0 := (text_yes h).2

set_option maxRecDepth 10000 in
set_option maxHeartbeats 25600000 in
theorem typesSame_walk (h : Hd) (p : Option Addr) (l c : Nat) (t : Ty) (h' : Hd) (p' : Option Addr) (l' c' : Nat) (u : Ty) (w : World) (hT : TyIs w h p l c t) (hU : TyIs w h' p' l' c' u) (hl : Laid w) :
    Calls Tryd.prog 4 #[.agg #[.int .u8 h.k, .int .i64 h.v, .slice p l c], .agg #[.int .u8 h'.k, .int .i64 h'.v, .slice p' l' c']] w fun e w' => e = .returned (.bool true) ∧ Below w.heap.size w w' := by
  have haw := fun W (hb : Below w.heap.size w W) => awake_walk W (hl.below hb)
  have hg1 := fun W (hb : Below w.heap.size w W) => great_walk t h p l c W (hT.below hb)
  have hg2 := fun W (hb : Below w.heap.size w W) => great_walk u h' p' l' c' W (hU.below hb)
  have hr := fun W (hb : Below w.heap.size w W) => refSame_walk _ t u h h' p p' l c l' c' W (Nat.le_refl _) (hT.below hb) (hU.below hb)
  have hs1 := fun W (hb : Below w.heap.size w W) => same_walk _ t u h h' p p' l c l' c' W (Nat.le_refl _) (hT.below hb) (hU.below hb)
  have hs2 := fun W (hb : Below w.heap.size w W) => same_walk _ u t h' h p' p l' c' l c W (Nat.le_refl _) (hU.below hb) (hT.below hb)
  have hs3 := fun W (hb : Below w.heap.size w W) => same_walk _ t t h h p p l c l c W (Nat.le_refl _) (hT.below hb) (hT.below hb)
  have hx1 := fun (hw : wt t ≤ 2000) W (hb : Below w.heap.size w W) => text_walk t h p l c W (hT.below hb) hw (hl.1.below hb) (hl.2.below hb)
  have hx2 := fun (hw : wt u ≤ 2000) W (hb : Below w.heap.size w W) => text_walk u h' p' l' c' W (hU.below hb) hw (hl.1.below hb) (hl.2.below hb)
  have hc1 := fun W (hb : Below w.heap.size w W) => closed_walk t h p l c W (hT.below hb) (hl.1.below hb)
  have hc2 := fun W (hb : Below w.heap.size w W) => closed_walk u h' p' l' c' W (hU.below hb) (hl.1.below hb)
  rw [same_comm u t] at hs2
  rw [same_self] at hs3
  have hct := closed_eq t
  have hcu := closed_eq u
  have hts := @text_same t u
  obtain ⟨k, v⟩ := h
  obtain ⟨k', v'⟩ := h'
  have hX : ∀ W, Below ((w.alloc (.cells #[.int .u8 k, .int .i64 v, .slice p l c] 24)).alloc (.cells #[.int .u8 k', .int .i64 v', .slice p' l' c'] 24)).heap.size ((w.alloc (.cells #[.int .u8 k, .int .i64 v, .slice p l c] 24)).alloc (.cells #[.int .u8 k', .int .i64 v', .slice p' l' c'] 24)) W →
      (W.cell? ⟨w.heap.size, 0, none⟩ = some (.int .u8 k) ∧ W.cell? ⟨w.heap.size, 1, none⟩ = some (.int .i64 v) ∧ W.cell? ⟨w.heap.size, 2, none⟩ = some (.slice p l c)) ∧ (W.cell? ⟨w.heap.size + 1, 0, none⟩ = some (.int .u8 k') ∧ W.cell? ⟨w.heap.size + 1, 1, none⟩ = some (.int .i64 v') ∧ W.cell? ⟨w.heap.size + 1, 2, none⟩ = some (.slice p' l' c')) := fun W hb =>
    ⟨box3 rfl ((box_new _).trans (hb.mono (by simp))), box3 (by simp) hb⟩
  have hB : ∀ W, Below ((w.alloc (.cells #[.int .u8 k, .int .i64 v, .slice p l c] 24)).alloc (.cells #[.int .u8 k', .int .i64 v', .slice p' l' c'] 24)).heap.size ((w.alloc (.cells #[.int .u8 k, .int .i64 v, .slice p l c] 24)).alloc (.cells #[.int .u8 k', .int .i64 v', .slice p' l' c'] 24)) W → Below w.heap.size w W := fun W hb =>
    ((box_new _).trans ((box_new _).mono (by simp))).trans (hb.mono (by simp; omega))
  have HAW := Lib.hid haw; have HG1 := Lib.hid hg1; have HG2 := Lib.hid hg2; have HR := Lib.hid hr; have HS1 := Lib.hid hs1; have HS2 := Lib.hid hs2; have HS3 := Lib.hid hs3; have HX1 := Lib.hid hx1; have HX2 := Lib.hid hx2; have HC1 := Lib.hid hc1; have HC2 := Lib.hid hc2; have HX := Lib.hid hX; have HB := Lib.hid hB
  have HCT := Lib.hid hct; have HCU := Lib.hid hcu; have HTS := Lib.hid hts
  clear haw hg1 hg2 hr hs1 hs2 hs3 hx1 hx2 hc1 hc2 hX hB hT hU hl hct hcu hts
  have HI := Lib.hid (Below.refl ((w.alloc (.cells #[.int .u8 k, .int .i64 v, .slice p l c] 24)).alloc (.cells #[.int .u8 k', .int .i64 v', .slice p' l' c'] 24)).heap.size ((w.alloc (.cells #[.int .u8 k, .int .i64 v, .slice p l c] 24)).alloc (.cells #[.int .u8 k', .int .i64 v', .slice p' l' c'] 24)))
  go_enter Tryd.func4, Tryd.ntmps4
  go_wp2_with (fail)
  refine (HG1.out _ (HB.out _ HI.out)).mono ?_
  rintro e w1 ⟨rfl, hb1⟩
  have HI1 := Lib.hid (below_then HI.out hb1 HI.out.size)
  obtain ⟨⟨a0, a1, a2⟩, b0, b1, b2⟩ := HX.out _ HI1.out
  clear hb1
  cases hg1 : greatB t
  · have HW1 := Lib.hid (small_of hg1)
    clear hg1
    go_wp2_with (fail)
    clear a0 a1 a2 b0 b1 b2
    refine (HG2.out _ (HB.out _ HI1.out)).mono ?_
    rintro e w2 ⟨rfl, hb2⟩
    have HI2 := Lib.hid (below_then HI1.out hb2 HI1.out.size)
    obtain ⟨⟨a0, a1, a2⟩, b0, b1, b2⟩ := HX.out _ HI2.out
    clear hb2
    cases hg2 : greatB u
    · have HW2 := Lib.hid (small_of hg2)
      clear hg2
      go_wp2_with (fail)
      clear a0 a1 a2 b0 b1 b2
      refine (HR.out _ (HB.out _ HI2.out)).mono ?_
      rintro e w3 ⟨rfl, hb3⟩
      have HI3 := Lib.hid (below_then HI2.out hb3 HI2.out.size)
      obtain ⟨⟨a0, a1, a2⟩, b0, b1, b2⟩ := HX.out _ HI3.out
      clear hb3
      have e1 : (sameT t u == sameT t u) = true := by simp
      have e2 : (sameT t u != sameT t u) = false := by simp
      have HTS2 := Lib.hid (fun a b => HTS.out a b)
      generalize sameT t u = S at *
      go_wp2_with (fail)
      clear a0 a1 a2 b0 b1 b2
      refine (HS1.out _ (HB.out _ HI3.out)).mono ?_
      rintro e w4 ⟨rfl, hb4⟩
      have HI4 := Lib.hid (below_then HI3.out hb4 HI3.out.size)
      obtain ⟨⟨a0, a1, a2⟩, b0, b1, b2⟩ := HX.out _ HI4.out
      clear hb4
      go_wp2_with (fail)
      clear a0 a1 a2 b0 b1 b2
      refine (HS2.out _ (HB.out _ HI4.out)).mono ?_
      rintro e w5 ⟨rfl, hb5⟩
      have HI5 := Lib.hid (below_then HI4.out hb5 HI4.out.size)
      obtain ⟨⟨a0, a1, a2⟩, b0, b1, b2⟩ := HX.out _ HI5.out
      clear hb5
      go_wp2_with (fail)
      clear a0 a1 a2 b0 b1 b2
      refine (HS3.out _ (HB.out _ HI5.out)).mono ?_
      rintro e w6 ⟨rfl, hb6⟩
      have HI6 := Lib.hid (below_then HI5.out hb6 HI5.out.size)
      obtain ⟨⟨a0, a1, a2⟩, b0, b1, b2⟩ := HX.out _ HI6.out
      clear hb6
      go_wp2_with (fail)
      clear a0 a1 a2 b0 b1 b2
      refine ((HX1.out (by have := HW1.out; omega)) _ (HB.out _ HI6.out)).mono ?_
      rintro e w7 ⟨rfl, hb7⟩
      have HI7 := Lib.hid (below_then HI6.out hb7 HI6.out.size)
      obtain ⟨⟨a0, a1, a2⟩, b0, b1, b2⟩ := HX.out _ HI7.out
      clear hb7
      have HQ1 := Lib.hid (And.intro (@textE_no t) (@textE_yes t))
      go_wp2_with (fail)
      clear a0 a1 a2 b0 b1 b2
      refine ((HX2.out (by have := HW2.out; omega)) _ (HB.out _ HI7.out)).mono ?_
      rintro e w8 ⟨rfl, hb8⟩
      have HI8 := Lib.hid (below_then HI7.out hb8 HI7.out.size)
      obtain ⟨⟨a0, a1, a2⟩, b0, b1, b2⟩ := HX.out _ HI8.out
      clear hb8
      cases hm1 : mayT t
      · rw [textE_no hm1]
        clear hm1
        go_wp2_with (fail)
        clear a0 a1 a2 b0 b1 b2
        refine (HAW.out _ (HB.out _ HI8.out)).mono ?_
        rintro e w9 ⟨rfl, hb9⟩
        have HI9 := Lib.hid (below_then HI8.out hb9 HI8.out.size)
        obtain ⟨⟨a0, a1, a2⟩, b0, b1, b2⟩ := HX.out _ HI9.out
        clear hb9
        clear a0 a1 a2 b0 b1 b2
        go_wp2_with (fail)
        go_ret
        exact ⟨rfl, HB.out _ HI9.out⟩
      · rw [textE_yes hm1]
        cases hm2 : mayT u
        · rw [textE_no hm2]
          clear hm1 hm2
          go_wp2_with (fail)
          clear a0 a1 a2 b0 b1 b2
          refine (HAW.out _ (HB.out _ HI8.out)).mono ?_
          rintro e w10 ⟨rfl, hb10⟩
          have HI10 := Lib.hid (below_then HI8.out hb10 HI8.out.size)
          obtain ⟨⟨a0, a1, a2⟩, b0, b1, b2⟩ := HX.out _ HI10.out
          clear hb10
          clear a0 a1 a2 b0 b1 b2
          go_wp2_with (fail)
          go_ret
          exact ⟨rfl, HB.out _ HI10.out⟩
        · rw [textE_yes hm2]
          clear hm1 hm2
          go_wp2_with (fail)
          clear a0 a1 a2 b0 b1 b2
          refine (HC1.out _ (HB.out _ HI8.out)).mono ?_
          rintro e w11 ⟨rfl, hb11⟩
          have HI11 := Lib.hid (below_then HI8.out hb11 HI8.out.size)
          obtain ⟨⟨a0, a1, a2⟩, b0, b1, b2⟩ := HX.out _ HI11.out
          clear hb11
          cases hc1 : closedT t
          · clear hc1
            go_wp2_with (fail)
            clear a0 a1 a2 b0 b1 b2
            refine (HAW.out _ (HB.out _ HI11.out)).mono ?_
            rintro e w12 ⟨rfl, hb12⟩
            have HI12 := Lib.hid (below_then HI11.out hb12 HI11.out.size)
            obtain ⟨⟨a0, a1, a2⟩, b0, b1, b2⟩ := HX.out _ HI12.out
            clear hb12
            clear a0 a1 a2 b0 b1 b2
            go_wp2_with (fail)
            go_ret
            exact ⟨rfl, HB.out _ HI12.out⟩
          · go_wp2_with (fail)
            clear a0 a1 a2 b0 b1 b2
            refine (HC2.out _ (HB.out _ HI11.out)).mono ?_
            rintro e w13 ⟨rfl, hb13⟩
            have HI13 := Lib.hid (below_then HI11.out hb13 HI11.out.size)
            obtain ⟨⟨a0, a1, a2⟩, b0, b1, b2⟩ := HX.out _ HI13.out
            clear hb13
            cases hc2 : closedT u
            · clear hc1 hc2
              go_wp2_with (fail)
              clear a0 a1 a2 b0 b1 b2
              refine (HAW.out _ (HB.out _ HI13.out)).mono ?_
              rintro e w14 ⟨rfl, hb14⟩
              have HI14 := Lib.hid (below_then HI13.out hb14 HI13.out.size)
              obtain ⟨⟨a0, a1, a2⟩, b0, b1, b2⟩ := HX.out _ HI14.out
              clear hb14
              clear a0 a1 a2 b0 b1 b2
              go_wp2_with (fail)
              go_ret
              exact ⟨rfl, HB.out _ HI14.out⟩
            · have e3 := HTS.out hc1 hc2
              clear hc1 hc2
              generalize textS t = A at *
              generalize textS u = B at *
              go_wp2_with (fail)
              clear a0 a1 a2 b0 b1 b2
              refine (HAW.out _ (HB.out _ HI13.out)).mono ?_
              rintro e w15 ⟨rfl, hb15⟩
              have HI15 := Lib.hid (below_then HI13.out hb15 HI13.out.size)
              obtain ⟨⟨a0, a1, a2⟩, b0, b1, b2⟩ := HX.out _ HI15.out
              clear hb15
              clear a0 a1 a2 b0 b1 b2
              go_wp2_with (fail)
              go_ret
              exact ⟨rfl, HB.out _ HI15.out⟩
    · clear hg2
      go_wp2_with (fail)
      clear a0 a1 a2 b0 b1 b2
      refine (HAW.out _ (HB.out _ HI2.out)).mono ?_
      rintro e w16 ⟨rfl, hb16⟩
      have HI16 := Lib.hid (below_then HI2.out hb16 HI2.out.size)
      obtain ⟨⟨a0, a1, a2⟩, b0, b1, b2⟩ := HX.out _ HI16.out
      clear hb16
      clear a0 a1 a2 b0 b1 b2
      go_wp2_with (fail)
      go_ret
      exact ⟨rfl, HB.out _ HI16.out⟩
  · clear hg1
    go_wp2_with (fail)
    refine (HAW.out _ (HB.out _ HI1.out)).mono ?_
    rintro e w17 ⟨rfl, hb17⟩
    have HI17 := Lib.hid (below_then HI1.out hb17 HI1.out.size)
    obtain ⟨⟨a0, a1, a2⟩, b0, b1, b2⟩ := HX.out _ HI17.out
    clear hb17
    clear a0 a1 a2 b0 b1 b2
    go_wp2_with (fail)
    go_ret
    exact ⟨rfl, HB.out _ HI17.out⟩
end Types
end Go.Proofs.YtgcnibipikondaaDoor
