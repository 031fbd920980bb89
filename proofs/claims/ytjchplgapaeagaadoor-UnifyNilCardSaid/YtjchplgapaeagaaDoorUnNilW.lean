/- The walk of layer 9's statement on a nil book. -/
import Derived.Test.YtjchplgapaeagaaDoorUnGreat
namespace Go.Proofs.YtjchplgapaeagaaDoor
open Go.RowKit
set_option linter.unusedVariables false
set_option linter.unusedSimpArgs false
namespace Types

theorem hasK_any (kd : Int) : ∀ ts : List Ty, hasK kd ts = ts.any (hasT kd)
  | [] => hasK_nil kd
  | t :: ts => by rw [hasK_cons, hasK_any kd ts]; rfl
theorem vars_has : ∀ t, hasT 5 t = false ↔ varsT t = [] := by
  refine ty_rec fun t ih => ?_
  rw [hasT_eq, varsT_eq, hasK_any, Bool.or_eq_false_iff, List.append_eq_nil_iff]
  refine and_congr ?_ ?_
  · by_cases h : t.h.k = 5 <;> simp [h]
  · rw [List.any_eq_false, varsK_map, List.flatMap_eq_nil_iff]
    exact ⟨fun h u hu => (ih u hu).1 (by simpa using h u hu), fun h u hu => by rw [(ih u hu).2 (h u hu)]; simp⟩
theorem has_nil (t : Ty) : hasB 0 t = (mayT t && !hasT 5 t) := by
  cases hm : mayT t with
  | false => unfold hasB; rw [hm]; rfl
  | true =>
    cases hh : hasT 5 t with
    | false =>
      refine hasB_of hm fun v hv => ?_
      rw [(vars_has t).1 hh] at hv; cases hv
    | true =>
      cases h : hasB 0 t with
      | false => rfl
      | true =>
        have hv := (has_facts h).2
        have hne : varsT t ≠ [] := fun e => by rw [(vars_has t).2 e] at hh; cases hh
        obtain ⟨v, hv'⟩ := List.exists_mem_of_ne_nil _ hne
        have := hv v hv'
        omega
theorem sen0_closed {t : Ty} (h : hasB 0 t = true) : sen0 t = t := by
  obtain ⟨hm, hv⟩ := has_facts h
  unfold sen0
  rw [inst_congr (ψ := tyV) t fun v hv' => absurd (hv v hv') (by omega), inst_id t hm]
set_option maxRecDepth 100000 in
set_option maxHeartbeats 12800000 in
theorem unifyNil_walk (h : Hd) (p : Option Addr) (l c : Nat) (t : Ty) (w : World) (hT : TyIs w h p l c t) (hkl : KidsLaid w) :
    Calls Tryd.prog 7 #[.agg #[.int .u8 h.k, .int .i64 h.v, .slice p l c]] w fun e w' => e = .returned (.bool true) ∧ Below w.heap.size w w' := by
  obtain ⟨k, v⟩ := h
  have hgr : ∀ W N, N = W.heap.size → Below w.heap.size w W → Calls Tryd.prog 9 #[.slice (some ⟨N, 0, none⟩) 1 1] (W.alloc (.cells #[.int .u8 k, .int .i64 v, .slice p l c] 25)) fun e w' => ∃ b, e = .returned (.bool b) ∧ (b = false → Few [t]) ∧ Below (W.alloc (.cells #[.int .u8 k, .int .i64 v, .slice p l c] 25)).heap.size (W.alloc (.cells #[.int .u8 k, .int .i64 v, .slice p l c] 25)) w' := fun W N hN hb => by
    subst hN
    exact lgreat_walk [t] _ 1 1 _ rfl (by unfold maxLen; omega) (kids_one (hT.below hb) 25 _ rfl)
  have hst := BX.start w (cs := #[.int .u8 k, .int .i64 v, .slice p l c]) (ty := 25)
  have haw := fun W (hb : Below w.heap.size w W) => awake_walk W (hkl.below hb)
  have HGR := Lib.hid hgr; have HST := Lib.hid hst; have HT := Lib.hid hT; have HKL := Lib.hid hkl; have HAW := Lib.hid haw
  clear hgr hst hT hkl haw
  go_enter Tryd.func7, Tryd.ntmps7
  go_wp2_with (fail)
  refine (HGR.out _ _ (by simp) HST.out.b).mono ?_
  rintro e w1 ⟨b, rfl, hf, hb1⟩
  have H1 := Lib.hid (HST.out.row hb1)
  clear hb1
  cases b with
  | true =>
    clear hf
    go_wp2_with (fail)
    refine (HAW.out _ H1.out.b).mono ?_
    rintro e w2 ⟨rfl, hb2⟩
    have H2 := Lib.hid (H1.out.then hb2)
    clear hb2
    go_wp2_with (fail)
    go_ret
    exact ⟨rfl, H2.out.b⟩
  | false =>
    have HF := Lib.hid (hf rfl)
    clear hf
    obtain ⟨⟨y0, y1, y2⟩, -, yl⟩ := c3 H1.out.x
    go_wp2_with (fail)
    refine (refMay_walk _ t _ p l c _ (Nat.le_refl _) (HT.out.below H1.out.b)).mono ?_
    rintro e w2 ⟨rfl, hb2⟩
    have H2 := Lib.hid (H1.out.then hb2)
    clear hb2 y0 y1 y2 yl H1
    obtain ⟨⟨y0, y1, y2⟩, -, yl⟩ := c3 H2.out.x
    have hsn := fun W (hb : Below w.heap.size w W) => sensenil_walk ⟨k, v⟩ p l c t 60 W (HT.out.below hb) (HKL.out.below hb) (by have := HF.out.2 t (by simp); omega) (by omega)
    have hjn := fun W N (hN : N = W.heap.size) (hb : Below w.heap.size w W) => joinnil_walk [t, t] (some ⟨N, 0, none⟩) 2 2 (W.alloc (.cells #[.int .u8 k, .int .i64 v, .slice p l c, .int .u8 k, .int .i64 v, .slice p l c] 25)) (kids_two (HT.out.below hb) (HT.out.below hb) 25 N hN) rfl ((HKL.out.below hb).below (al_new _)) (by have := nv_le t; have := HF.out.2 t (by simp); rw [nvK_cons, nvK_cons, nvK_nil]; omega)
    have HSN := Lib.hid hsn; have HJN := Lib.hid hjn
    clear hsn hjn
    have hcl : hasB 0 t = (mayT t && !hasT 5 t) := has_nil t
    have HCL := Lib.hid hcl
    clear hcl
    cases hm : mayT t with
    | false =>
      have hB : hasB 0 t = false := by rw [HCL.out, hm]; rfl
      have HB := Lib.hid hB
      clear hm hB y0 y1 y2 yl
      obtain ⟨⟨y0, y1, y2⟩, -, yl⟩ := c3 H2.out.x
      go_wp2_with (fail)
      refine (HSN.out _ H2.out.b).mono ?_
      rintro e w3 ⟨hb3, hor⟩
      obtain rfl : e = .returned (.tuple #[.agg #[.int .u8 0, .int .i64 0, .slice none 0 0], .int .i64 1]) := by
        rcases hor with ⟨_, he⟩ | ⟨x1, _⟩ | ⟨x1, _⟩
        · exact he
        · rw [HB.out] at x1; cases x1
        · rw [HB.out] at x1; cases x1
      have H3 := Lib.hid (H2.out.then hb3)
      clear hb3 hor y0 y1 y2 yl
      go_wp2_with (fail)
      refine (freshNil_walk _).mono ?_
      rintro e w4 ⟨rfl, hb4⟩
      have H4 := Lib.hid (H3.out.row hb4)
      clear hb4
      go_wp2_with (fail)
      refine (refSame_walk _ zTy zTy ⟨0, 0⟩ ⟨0, 0⟩ none none 0 0 0 0 _ (Nat.le_refl _) (zTy_is _) (zTy_is _)).mono ?_
      rintro e w5 ⟨rfl, hb5⟩
      rw [same_self zTy]
      have H5 := Lib.hid (H4.out.then hb5)
      clear hb5
      go_wp2_with (fail)
      refine (varsNil_walk _).mono ?_
      rintro e w6 ⟨rfl, rfl⟩
      obtain ⟨⟨y0, y1, y2⟩, -, yl⟩ := c3 H5.out.x
      go_wp2_with (fail)
      refine (HJN.out _ _ rfl H5.out.b).mono ?_
      rintro e w7 ⟨hb7, hor⟩
      obtain rfl : e = .returned (.bool false) := by
        rcases hor with ⟨he, _⟩ | ⟨_, hany, _⟩
        · exact he
        · have := any_has.2 hany t (by simp)
          rw [HB.out] at this; cases this
      have H7 := Lib.hid (H5.out.row hb7)
      clear hb7 hor y0 y1 y2 yl
      go_wp2_with (fail)
      refine (HAW.out _ H7.out.b).mono ?_
      rintro e w9 ⟨rfl, hb9⟩
      have H9 := Lib.hid (H7.out.then hb9)
      clear hb9
      go_wp2_with (fail)
      go_ret
      exact ⟨rfl, H9.out.b⟩
    | true =>
      have HM := Lib.hid hm
      clear hm
      go_wp2_with (fail)
      refine (refHas_walk 5 _ t _ p l c _ (Nat.le_refl _) (HT.out.below H2.out.b)).mono ?_
      rintro e w2b ⟨rfl, hb2b⟩
      have H2b := Lib.hid (H2.out.then hb2b)
      clear hb2b y0 y1 y2 yl
      cases hh : hasT 5 t with
      | true =>
        have hB : hasB 0 t = false := by rw [HCL.out, HM.out, hh]; rfl
        have HB := Lib.hid hB
        clear hh hB
        obtain ⟨⟨y0, y1, y2⟩, -, yl⟩ := c3 H2b.out.x
        go_wp2_with (fail)
        refine (HSN.out _ H2b.out.b).mono ?_
        rintro e w3 ⟨hb3, hor⟩
        obtain rfl : e = .returned (.tuple #[.agg #[.int .u8 0, .int .i64 0, .slice none 0 0], .int .i64 1]) := by
          rcases hor with ⟨_, he⟩ | ⟨x1, _⟩ | ⟨x1, _⟩
          · exact he
          · rw [HB.out] at x1; cases x1
          · rw [HB.out] at x1; cases x1
        have H3 := Lib.hid (H2b.out.then hb3)
        clear hb3 hor y0 y1 y2 yl
        go_wp2_with (fail)
        refine (freshNil_walk _).mono ?_
        rintro e w4 ⟨rfl, hb4⟩
        have H4 := Lib.hid (H3.out.row hb4)
        clear hb4
        go_wp2_with (fail)
        refine (refSame_walk _ zTy zTy ⟨0, 0⟩ ⟨0, 0⟩ none none 0 0 0 0 _ (Nat.le_refl _) (zTy_is _) (zTy_is _)).mono ?_
        rintro e w5 ⟨rfl, hb5⟩
        rw [same_self zTy]
        have H5 := Lib.hid (H4.out.then hb5)
        clear hb5
        go_wp2_with (fail)
        refine (varsNil_walk _).mono ?_
        rintro e w6 ⟨rfl, rfl⟩
        obtain ⟨⟨y0, y1, y2⟩, -, yl⟩ := c3 H5.out.x
        go_wp2_with (fail)
        refine (HJN.out _ _ rfl H5.out.b).mono ?_
        rintro e w7 ⟨hb7, hor⟩
        obtain rfl : e = .returned (.bool false) := by
          rcases hor with ⟨he, _⟩ | ⟨_, hany, _⟩
          · exact he
          · have := any_has.2 hany t (by simp)
            rw [HB.out] at this; cases this
        have H7 := Lib.hid (H5.out.row hb7)
        clear hb7 hor y0 y1 y2 yl
        go_wp2_with (fail)
        refine (HAW.out _ H7.out.b).mono ?_
        rintro e w9 ⟨rfl, hb9⟩
        have H9 := Lib.hid (H7.out.then hb9)
        clear hb9
        go_wp2_with (fail)
        go_ret
        exact ⟨rfl, H9.out.b⟩
      | false =>
        have hB : hasB 0 t = true := by rw [HCL.out, HM.out, hh]; rfl
        have HB := Lib.hid hB
        clear hh hB
        obtain ⟨⟨y0, y1, y2⟩, -, yl⟩ := c3 H2b.out.x
        go_wp2_with (fail)
        refine (HSN.out _ H2b.out.b).mono ?_
        rintro e w3 ⟨hb3, hor⟩
        obtain ⟨h3, q3, l3, c3', rfl, hT3⟩ : ∃ (h : Hd) (q : Option Addr) (l c : Nat), e = .returned (.tuple #[.agg #[.int .u8 h.k, .int .i64 h.v, .slice q l c], .int .i64 0]) ∧ TyIs w3 h q l c t := by
          rcases hor with ⟨x1, _⟩ | ⟨_, x2, _⟩ | ⟨x1, _, h, q, l, c, he, hx⟩
          · rw [HB.out] at x1; cases x1
          · rw [sen0_closed HB.out] at x2; have := HF.out.2 t (by simp); omega
          · rw [sen0_closed HB.out] at hx; exact ⟨h, q, l, c, he, hx.reads' (veil_reads _ _)⟩
        obtain ⟨k3, v3⟩ := h3
        have HT3 := Lib.hid hT3
        clear hT3
        have H3 := Lib.hid (H2b.out.then hb3)
        clear hb3 hor y0 y1 y2 yl
        go_wp2_with (fail)
        refine (freshNil_walk _).mono ?_
        rintro e w4 ⟨rfl, hb4⟩
        have H4 := Lib.hid (H3.out.row hb4)
        have hal := al_new (W := w3) (.cells #[.int .u8 k3, .int .i64 v3, .slice q3 l3 c3'] 25)
        have hx4 := (hb4.block _ (by simp)).trans (heap_alloc_new w3 (.cells #[.int .u8 k3, .int .i64 v3, .slice q3 l3 c3'] 25))
        have HT4 := Lib.hid ((HT3.out.below hal).below hb4); have HX4 := Lib.hid hx4
        clear hal hx4
        clear hb4
        go_wp2_with (fail)
        refine (refSame_walk _ zTy zTy ⟨0, 0⟩ ⟨0, 0⟩ none none 0 0 0 0 _ (Nat.le_refl _) (zTy_is _) (zTy_is _)).mono ?_
        rintro e w5 ⟨rfl, hb5⟩
        rw [same_self zTy]
        have H5 := Lib.hid (H4.out.then hb5)
        have HT5 := Lib.hid (HT4.out.below hb5); have HX5 := Lib.hid ((hb5.block _ (lt_of_block HX4.out)).trans HX4.out)
        clear hb5
        go_wp2_with (fail)
        refine (varsNil_walk _).mono ?_
        rintro e w6 ⟨rfl, rfl⟩
        obtain ⟨⟨y0, y1, y2⟩, -, yl⟩ := c3 H5.out.x
        go_wp2_with (fail)
        refine (HJN.out _ _ rfl H5.out.b).mono ?_
        rintro e w7 ⟨hb7, hor⟩
        obtain rfl : e = .returned (.bool true) := by
          rcases hor with ⟨_, x1 | x1⟩ | ⟨he, _⟩
          · obtain ⟨u, hu, hv⟩ := any_has.1.1 x1
            simp only [List.mem_cons, List.not_mem_nil, or_false, or_self] at hu
            subst hu
            rw [HB.out] at hv; cases hv
          · exact absurd ((allOne_two t t tyV).2 rfl) (x1 _)
          · exact he
        have HT7 := Lib.hid ((HT5.out.below (al_new _)).below hb7); have HX7 := Lib.hid ((hb7.block _ (by have := lt_of_block HX5.out; simp; omega)).trans (((al_new _).block _ (lt_of_block HX5.out)).trans HX5.out))
        have H7 := Lib.hid (H5.out.row hb7)
        clear hb7 hor y0 y1 y2 yl
        obtain ⟨⟨z0, z1, z2⟩, -, zl⟩ := c3 HX7.out
        obtain ⟨⟨y0, y1, y2⟩, -, yl⟩ := c3 H7.out.x
        go_wp2_with (fail)
        refine (refSame_walk _ t t _ ⟨k, v⟩ _ p _ _ l c _ (Nat.le_refl _) HT7.out (HT.out.below H7.out.b)).mono ?_
        rintro e w8 ⟨rfl, hb8⟩
        rw [same_self t]
        have H8 := Lib.hid (H7.out.then hb8)
        clear hb8 y0 y1 y2 yl z0 z1 z2 zl
        go_wp2_with (fail)
        refine (HAW.out _ H8.out.b).mono ?_
        rintro e w9 ⟨rfl, hb9⟩
        have H9 := Lib.hid (H8.out.then hb9)
        clear hb9
        go_wp2_with (fail)
        go_ret
        exact ⟨rfl, H9.out.b⟩
end Types
end Go.Proofs.YtjchplgapaeagaaDoor
