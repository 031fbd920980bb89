/- The walk of layer 8's statement on which types may be, are closed, have functions, how great they are, and their texts. -/
import Derived.Test.YtgcnibipikondaaDoorTyAwake
import Derived.Test.YtgcnibipikondaaDoorTySize
import Derived.Test.YtgcnibipikondaaDoorTyRefB
import Derived.Test.YtgcnibipikondaaDoorTyRefT
import Derived.Deep.RegionHeld3
import Derived.LoopTactic
namespace Go.Proofs.YtgcnibipikondaaDoor
open Go.RowKit
set_option linter.unusedVariables false
set_option linter.unusedSimpArgs false
namespace Types

theorem is_region (k v : Int) (p : Option Addr) (l c : Nat) (t : Ty) (w : World) (hT : TyIs w ⟨k, v⟩ p l c t) (hw : wt t ≤ 400) (hl : Laid w) :
    (∀ V W' : World, (V.cell? ⟨w.heap.size, 0, none⟩ = some (.int .u8 k) ∧ V.cell? ⟨w.heap.size, 1, none⟩ = some (.int .i64 v) ∧ V.cell? ⟨w.heap.size, 2, none⟩ = some (.slice p l c) ∧ Below w.heap.size w V) → Below V.heap.size V W' → (W'.cell? ⟨w.heap.size, 0, none⟩ = some (.int .u8 k) ∧ W'.cell? ⟨w.heap.size, 1, none⟩ = some (.int .i64 v) ∧ W'.cell? ⟨w.heap.size, 2, none⟩ = some (.slice p l c) ∧ Below w.heap.size w W')) ∧
    (∀ V : World, (V.cell? ⟨w.heap.size, 0, none⟩ = some (.int .u8 k) ∧ V.cell? ⟨w.heap.size, 1, none⟩ = some (.int .i64 v) ∧ V.cell? ⟨w.heap.size, 2, none⟩ = some (.slice p l c) ∧ Below w.heap.size w V) → Calls Tryd.prog 12 #[.agg #[.int .u8 k, .int .i64 v, .slice p l c]] V fun e w' => e = .returned (.bool (mayT t)) ∧ (w'.cell? ⟨w.heap.size, 0, none⟩ = some (.int .u8 k) ∧ w'.cell? ⟨w.heap.size, 1, none⟩ = some (.int .i64 v) ∧ w'.cell? ⟨w.heap.size, 2, none⟩ = some (.slice p l c) ∧ Below w.heap.size w w')) ∧
    (∀ V : World, (V.cell? ⟨w.heap.size, 0, none⟩ = some (.int .u8 k) ∧ V.cell? ⟨w.heap.size, 1, none⟩ = some (.int .i64 v) ∧ V.cell? ⟨w.heap.size, 2, none⟩ = some (.slice p l c) ∧ Below w.heap.size w V) → Calls Tryd.prog 13 #[.agg #[.int .u8 k, .int .i64 v, .slice p l c]] V fun e w' => e = .returned (.bool (mayT t && !hasT 5 t)) ∧ (w'.cell? ⟨w.heap.size, 0, none⟩ = some (.int .u8 k) ∧ w'.cell? ⟨w.heap.size, 1, none⟩ = some (.int .i64 v) ∧ w'.cell? ⟨w.heap.size, 2, none⟩ = some (.slice p l c) ∧ Below w.heap.size w w')) ∧
    (∀ V : World, (V.cell? ⟨w.heap.size, 0, none⟩ = some (.int .u8 k) ∧ V.cell? ⟨w.heap.size, 1, none⟩ = some (.int .i64 v) ∧ V.cell? ⟨w.heap.size, 2, none⟩ = some (.slice p l c) ∧ Below w.heap.size w V) → Calls Tryd.prog 14 #[.agg #[.int .u8 k, .int .i64 v, .slice p l c], .int .u8 5] V fun e w' => e = .returned (.bool (hasT 5 t)) ∧ (w'.cell? ⟨w.heap.size, 0, none⟩ = some (.int .u8 k) ∧ w'.cell? ⟨w.heap.size, 1, none⟩ = some (.int .i64 v) ∧ w'.cell? ⟨w.heap.size, 2, none⟩ = some (.slice p l c) ∧ Below w.heap.size w w')) ∧
    (∀ V : World, (V.cell? ⟨w.heap.size, 0, none⟩ = some (.int .u8 k) ∧ V.cell? ⟨w.heap.size, 1, none⟩ = some (.int .i64 v) ∧ V.cell? ⟨w.heap.size, 2, none⟩ = some (.slice p l c) ∧ Below w.heap.size w V) → Calls Tryd.prog 14 #[.agg #[.int .u8 k, .int .i64 v, .slice p l c], .int .u8 4] V fun e w' => e = .returned (.bool (hasT 4 t)) ∧ (w'.cell? ⟨w.heap.size, 0, none⟩ = some (.int .u8 k) ∧ w'.cell? ⟨w.heap.size, 1, none⟩ = some (.int .i64 v) ∧ w'.cell? ⟨w.heap.size, 2, none⟩ = some (.slice p l c) ∧ Below w.heap.size w w')) ∧
    (∀ V : World, (V.cell? ⟨w.heap.size, 0, none⟩ = some (.int .u8 k) ∧ V.cell? ⟨w.heap.size, 1, none⟩ = some (.int .i64 v) ∧ V.cell? ⟨w.heap.size, 2, none⟩ = some (.slice p l c) ∧ Below w.heap.size w V) → Calls Tryd.prog 17 #[.agg #[.int .u8 k, .int .i64 v, .slice p l c]] V fun e w' => e = .returned (.int .i64 (wt t : Nat)) ∧ (w'.cell? ⟨w.heap.size, 0, none⟩ = some (.int .u8 k) ∧ w'.cell? ⟨w.heap.size, 1, none⟩ = some (.int .i64 v) ∧ w'.cell? ⟨w.heap.size, 2, none⟩ = some (.slice p l c) ∧ Below w.heap.size w w')) ∧
    (∀ V : World, (V.cell? ⟨w.heap.size, 0, none⟩ = some (.int .u8 k) ∧ V.cell? ⟨w.heap.size, 1, none⟩ = some (.int .i64 v) ∧ V.cell? ⟨w.heap.size, 2, none⟩ = some (.slice p l c) ∧ Below w.heap.size w V) → Calls Tryd.prog 9 #[] V fun e w' => e = .returned (.bool true) ∧ (w'.cell? ⟨w.heap.size, 0, none⟩ = some (.int .u8 k) ∧ w'.cell? ⟨w.heap.size, 1, none⟩ = some (.int .i64 v) ∧ w'.cell? ⟨w.heap.size, 2, none⟩ = some (.slice p l c) ∧ Below w.heap.size w w')) ∧
    (∀ V : World, (V.cell? ⟨w.heap.size, 0, none⟩ = some (.int .u8 k) ∧ V.cell? ⟨w.heap.size, 1, none⟩ = some (.int .i64 v) ∧ V.cell? ⟨w.heap.size, 2, none⟩ = some (.slice p l c) ∧ Below w.heap.size w V) → Calls Tryd.prog 15 #[.slice (some ⟨V.heap.size, 0, none⟩) 1 1] (V.alloc (.cells #[.int .u8 k, .int .i64 v, .slice p l c] 24)) fun e w' => e = .returned (.bool (hasT 4 t)) ∧ (w'.cell? ⟨w.heap.size, 0, none⟩ = some (.int .u8 k) ∧ w'.cell? ⟨w.heap.size, 1, none⟩ = some (.int .i64 v) ∧ w'.cell? ⟨w.heap.size, 2, none⟩ = some (.slice p l c) ∧ Below w.heap.size w w')) ∧
    (∀ V : World, (V.cell? ⟨w.heap.size, 0, none⟩ = some (.int .u8 k) ∧ V.cell? ⟨w.heap.size, 1, none⟩ = some (.int .i64 v) ∧ V.cell? ⟨w.heap.size, 2, none⟩ = some (.slice p l c) ∧ Below w.heap.size w V) → Calls Tryd.prog 16 #[.slice (some ⟨V.heap.size, 0, none⟩) 1 1] (V.alloc (.cells #[.int .u8 k, .int .i64 v, .slice p l c] 24)) fun e w' => e = .returned (.int .i64 (wt t : Nat)) ∧ (w'.cell? ⟨w.heap.size, 0, none⟩ = some (.int .u8 k) ∧ w'.cell? ⟨w.heap.size, 1, none⟩ = some (.int .i64 v) ∧ w'.cell? ⟨w.heap.size, 2, none⟩ = some (.slice p l c) ∧ Below w.heap.size w w')) := by
  have hkeep : ∀ V W' : World, (V.cell? ⟨w.heap.size, 0, none⟩ = some (.int .u8 k) ∧ V.cell? ⟨w.heap.size, 1, none⟩ = some (.int .i64 v) ∧ V.cell? ⟨w.heap.size, 2, none⟩ = some (.slice p l c) ∧ Below w.heap.size w V) → Below V.heap.size V W' → (W'.cell? ⟨w.heap.size, 0, none⟩ = some (.int .u8 k) ∧ W'.cell? ⟨w.heap.size, 1, none⟩ = some (.int .i64 v) ∧ W'.cell? ⟨w.heap.size, 2, none⟩ = some (.slice p l c) ∧ Below w.heap.size w W') := fun V W' h hb => by
    obtain ⟨a0, a1, a2, a3⟩ := h
    have hr := Reads.of_below hb
    exact ⟨hr _ _ a0, hr _ _ a1, hr _ _ a2, below_then a3 hb a3.size⟩
  have hrow : ∀ (V W' : World) (O : Obj), (V.cell? ⟨w.heap.size, 0, none⟩ = some (.int .u8 k) ∧ V.cell? ⟨w.heap.size, 1, none⟩ = some (.int .i64 v) ∧ V.cell? ⟨w.heap.size, 2, none⟩ = some (.slice p l c) ∧ Below w.heap.size w V) → Below (V.alloc O).heap.size (V.alloc O) W' → (W'.cell? ⟨w.heap.size, 0, none⟩ = some (.int .u8 k) ∧ W'.cell? ⟨w.heap.size, 1, none⟩ = some (.int .i64 v) ∧ W'.cell? ⟨w.heap.size, 2, none⟩ = some (.slice p l c) ∧ Below w.heap.size w W') := fun V W' O h hb => hkeep V W' h ((box_new O).trans (hb.mono (by simp)))
  have hB : ∀ V : World, (V.cell? ⟨w.heap.size, 0, none⟩ = some (.int .u8 k) ∧ V.cell? ⟨w.heap.size, 1, none⟩ = some (.int .i64 v) ∧ V.cell? ⟨w.heap.size, 2, none⟩ = some (.slice p l c) ∧ Below w.heap.size w V) → Below w.heap.size w V := fun V h => h.2.2.2
  have hone : ∀ V : World, (V.cell? ⟨w.heap.size, 0, none⟩ = some (.int .u8 k) ∧ V.cell? ⟨w.heap.size, 1, none⟩ = some (.int .i64 v) ∧ V.cell? ⟨w.heap.size, 2, none⟩ = some (.slice p l c) ∧ Below w.heap.size w V) → Kids (V.alloc (.cells #[.int .u8 k, .int .i64 v, .slice p l c] 24)) (some ⟨V.heap.size, 0, none⟩) [t] := fun V h => kids_one (hT.below (hB V h)) 24 V.heap.size rfl
  have hws : wts [t] = wt t := by rw [wts_cons, wts_nil]; omega
  have hh4 : hasK 4 [t] = hasT 4 t := by rw [hasK_cons, hasK_nil, Bool.or_false]
  have hct := closed_eq t
  refine ⟨hkeep, fun V h => ?_, fun V h => ?_, fun V h => ?_, fun V h => ?_, fun V h => ?_, fun V h => ?_, fun V h => ?_, fun V h => ?_⟩
  · exact (may_walk t _ p l c V (hT.below (hB V h)) (hl.1.below (hB V h))).mono fun e w' ⟨he, hb⟩ => ⟨he, hkeep V w' h hb⟩
  · rw [← hct]
    exact (closed_walk t _ p l c V (hT.below (hB V h)) (hl.1.below (hB V h))).mono fun e w' ⟨he, hb⟩ => ⟨he, hkeep V w' h hb⟩
  · exact (refHas_walk 5 _ t _ p l c V (Nat.le_refl _) (hT.below (hB V h))).mono fun e w' ⟨he, hb⟩ => ⟨he, hkeep V w' h hb⟩
  · exact (refHas_walk 4 _ t _ p l c V (Nat.le_refl _) (hT.below (hB V h))).mono fun e w' ⟨he, hb⟩ => ⟨he, hkeep V w' h hb⟩
  · exact (refSize_walk _ t _ p l c V (Nat.le_refl _) (by omega) (hT.below (hB V h))).mono fun e w' ⟨he, hb⟩ => ⟨he, hkeep V w' h hb⟩
  · exact (awake_walk V (hl.below (hB V h))).mono fun e w' ⟨he, hb⟩ => ⟨he, hkeep V w' h hb⟩
  · rw [← hh4]
    exact (arrows_walk [t] _ 1 1 _ rfl one_le (hone V h) ((hl.1.below (hB V h)).below (box_new _))).mono fun e w' ⟨he, hb⟩ => ⟨he, hrow V w' _ h hb⟩
  · rw [← hws]
    exact (size_walk [t] _ 1 1 _ rfl one_le (hone V h) (by omega)).mono fun e w' ⟨he, hb⟩ => ⟨he, hrow V w' _ h hb⟩

set_option maxRecDepth 100000 in
set_option maxHeartbeats 51200000 in
theorem typesIs_walk (h : Hd) (p : Option Addr) (l c : Nat) (t : Ty) (w : World) (hT : TyIs w h p l c t) (hl : Laid w) :
    Calls Tryd.prog 3 #[.agg #[.int .u8 h.k, .int .i64 h.v, .slice p l c]] w fun e w' => e = .returned (.bool true) ∧ Below w.heap.size w w' := by
  have hg := fun O : Obj => great_walk t h p l c (w.alloc O) (hT.below (box_new O))
  have haw := fun W (hb : Below w.heap.size w W) => awake_walk W (hl.below hb)
  have hm := fun W (hb : Below w.heap.size w W) => refMay_walk _ t h p l c W (Nat.le_refl _) (hT.below hb)
  have hx := fun (hw : wt t ≤ 2000) W (hb : Below w.heap.size w W) => text_walk t h p l c W (hT.below hb) hw (hl.1.below hb) (hl.2.below hb)
  have hrx := fun (hw : wt t ≤ 2000) (hok : mayT t = true) W (hb : Below w.heap.size w W) => refText_all w (wt t) t h p l c W (Nat.le_refl _) hw hok hT hb
  obtain ⟨k, v⟩ := h
  have hreg := fun hw => is_region k v p l c t w hT hw hl
  have hB : ∀ W, Below (w.alloc (.cells #[.int .u8 k, .int .i64 v, .slice p l c] 24)).heap.size (w.alloc (.cells #[.int .u8 k, .int .i64 v, .slice p l c] 24)) W → Below w.heap.size w W := fun W hb => (box_new _).trans (hb.mono (by simp))
  have HG := Lib.hid hg; have HAW := Lib.hid haw; have HM := Lib.hid hm; have HX := Lib.hid hx; have HRX := Lib.hid hrx; have HREG := Lib.hid hreg; have HB := Lib.hid hB
  clear hg haw hm hx hrx hreg hB hT hl
  go_enter Tryd.func3, Tryd.ntmps3
  go_wp2_with (fail)
  refine (HG.out _).mono ?_
  rintro e w1 ⟨rfl, hb1⟩
  obtain ⟨c0, c1, c2⟩ := box3 (N := w.heap.size) rfl hb1
  have HI1 := Lib.hid hb1
  clear hb1
  cases hgr : greatB t
  · have HW := Lib.hid (small_of hgr)
    clear hgr
    go_wp2_with (fail)
    refine (HM.out _ (HB.out _ HI1.out)).mono ?_
    rintro e w2 ⟨rfl, hb2⟩
    have HI2 := Lib.hid (below_then HI1.out hb2 HI1.out.size)
    clear hb2 c0 c1 c2
    obtain ⟨c0, c1, c2⟩ := box3 (N := w.heap.size) rfl HI2.out
    go_wp2_with (fail)
    refine (HX.out (by have := HW.out; omega) _ (HB.out _ HI2.out)).mono ?_
    rintro e w3 ⟨rfl, hb3⟩
    have HI3 := Lib.hid (below_then HI2.out hb3 HI2.out.size)
    clear hb3 c0 c1 c2
    obtain ⟨c0, c1, c2⟩ := box3 (N := w.heap.size) rfl HI3.out
    obtain ⟨h1, h2, h3, h4, h5, h6, h7, h8, h9⟩ := HREG.out HW.out
    have hS0 : (w3.drew.cell? ⟨w.heap.size, 0, none⟩ = some (.int .u8 k) ∧ w3.drew.cell? ⟨w.heap.size, 1, none⟩ = some (.int .i64 v) ∧ w3.drew.cell? ⟨w.heap.size, 2, none⟩ = some (.slice p l c) ∧ Below w.heap.size w w3.drew) := ⟨c0, c1, c2, (HB.out _ HI3.out).drew⟩
    have HRT := Lib.hid (HRX.out (by have := HW.out; omega))
    have hsz := HW.out
    cases hmt : mayT t
    · rw [hmt] at h2 h3
      simp only [Bool.false_and] at h3
      obtain ⟨e1, e2⟩ := text_no hmt
      rw [e1, e2]
      have HMT := Lib.hid hmt
      clear hmt e1 e2
      generalize hasT 5 t = X5 at *
      generalize hasT 4 t = X4 at *
      generalize wt t = Y at *
      have q1 : (X4 == X4) = true := by simp
      have q2 : (X4 != X4) = false := by simp
      have q3 : ((Y : Int) == (Y : Int)) = true := by simp
      have q4 : ((Y : Int) != (Y : Int)) = false := by simp
      have q5 : ((!X5) == (!X5)) = true := by simp
      have q6 : ((!X5) != (!X5)) = false := by simp
      have H1 := Lib.hid h1; have H2 := Lib.hid h2; have H3 := Lib.hid h3; have H4 := Lib.hid h4; have H5 := Lib.hid h5; have H6 := Lib.hid h6; have H7 := Lib.hid h7; have H8 := Lib.hid h8; have H9 := Lib.hid h9
      clear h1 h2 h3 h4 h5 h6 h7 h8 h9
      go_wp2_with (fail)
      refine wp_region_held_drew (S := fun W => (W.cell? ⟨w.heap.size, 0, none⟩ = some (.int .u8 k) ∧ W.cell? ⟨w.heap.size, 1, none⟩ = some (.int .i64 v) ∧ W.cell? ⟨w.heap.size, 2, none⟩ = some (.slice p l c) ∧ Below w.heap.size w W)) (by kernel_rfl) hS0 (fun hHeld => ?_)
      have hSv0 := hS0
      clear hHeld hS0
      generalize w3.drew = v0 at *
      refine wpAnyH_take (i := 0) (v := .agg #[.int .u8 k, .int .i64 v, .slice p l c]) rfl (by kernel_rfl) (by kernel_rfl) (by kernel_rfl) (fun _ _ _ h => h) (Or.inl ⟨by rfl, ?_⟩) (by assumption) ?_
      · intro w' hSw
        obtain ⟨g0, g1, g2, g3⟩ := hSw
        first | go_simp | rfl
      try simp only [Act.put, List.getElem_toArray, List.getElem_cons_succ, List.getElem_cons_zero, List.setIfInBounds_toArray, List.set_cons_zero, List.set_cons_succ]
      refine wpAnyH_take (i := 2) (v := .bool false) rfl (by kernel_rfl) (by kernel_rfl) (by kernel_rfl) (fun _ _ _ h => h) (Or.inl ⟨by rfl, ?_⟩) (by assumption) ?_
      · intro w' hSw
        obtain ⟨g0, g1, g2, g3⟩ := hSw
        first | go_simp | rfl
      try simp only [Act.put, List.getElem_toArray, List.getElem_cons_succ, List.getElem_cons_zero, List.setIfInBounds_toArray, List.set_cons_zero, List.set_cons_succ]
      refine wpAnyH_ready (rs := [1]) (by kernel_rfl) (by simp) ?_
      refine AllReadyH.cons rfl (fun K hK => ?_) AllReadyH.nil
      have HK2 := Lib.hid hK
      clear hK
      go_simp
      refine (H2.out _ (by assumption)).mono ?_
      rintro e v1 ⟨rfl, hSv1⟩
      refine HK2.out _ _ hSv1 (fun hHeld => ?_)
      clear HK2 hHeld
      try simp only [Act.put, List.getElem_toArray, List.getElem_cons_succ, List.getElem_cons_zero, List.setIfInBounds_toArray, List.set_cons_zero, List.set_cons_succ]
      clear K
      refine wpAnyH_take (i := 3) (v := .bool false) rfl (by kernel_rfl) (by kernel_rfl) (by kernel_rfl) (fun _ _ _ h => h) (Or.inl ⟨by rfl, ?_⟩) (by assumption) ?_
      · intro w' hSw
        obtain ⟨g0, g1, g2, g3⟩ := hSw
        first | go_simp | rfl
      try simp only [Act.put, List.getElem_toArray, List.getElem_cons_succ, List.getElem_cons_zero, List.setIfInBounds_toArray, List.set_cons_zero, List.set_cons_succ]
      refine wpAnyH_take (i := 4) (v := .bool false) rfl (by kernel_rfl) (by kernel_rfl) (by kernel_rfl) (fun _ _ _ h => h) (Or.inl ⟨by rfl, ?_⟩) (by assumption) ?_
      · intro w' hSw
        obtain ⟨g0, g1, g2, g3⟩ := hSw
        first | go_simp | rfl
      try simp only [Act.put, List.getElem_toArray, List.getElem_cons_succ, List.getElem_cons_zero, List.setIfInBounds_toArray, List.set_cons_zero, List.set_cons_succ]
      refine wpAnyH_take (i := 5) (v := .agg #[.int .u8 k, .int .i64 v, .slice p l c]) rfl (by kernel_rfl) (by kernel_rfl) (by kernel_rfl) (fun _ _ _ h => h) (Or.inl ⟨by rfl, ?_⟩) (by assumption) ?_
      · intro w' hSw
        obtain ⟨g0, g1, g2, g3⟩ := hSw
        first | go_simp | rfl
      try simp only [Act.put, List.getElem_toArray, List.getElem_cons_succ, List.getElem_cons_zero, List.setIfInBounds_toArray, List.set_cons_zero, List.set_cons_succ]
      refine wpAnyH_take (i := 7) (v := .bool false) rfl (by kernel_rfl) (by kernel_rfl) (by kernel_rfl) (fun _ _ _ h => h) (Or.inl ⟨by rfl, ?_⟩) (by assumption) ?_
      · intro w' hSw
        obtain ⟨g0, g1, g2, g3⟩ := hSw
        first | go_simp | rfl
      try simp only [Act.put, List.getElem_toArray, List.getElem_cons_succ, List.getElem_cons_zero, List.setIfInBounds_toArray, List.set_cons_zero, List.set_cons_succ]
      refine wpAnyH_ready (rs := [6]) (by kernel_rfl) (by simp) ?_
      refine AllReadyH.cons rfl (fun K hK => ?_) AllReadyH.nil
      have HK2 := Lib.hid hK
      clear hK
      go_simp
      refine (H3.out _ (by assumption)).mono ?_
      rintro e v2 ⟨rfl, hSv2⟩
      refine HK2.out _ _ hSv2 (fun hHeld => ?_)
      clear HK2 hHeld
      try simp only [Act.put, List.getElem_toArray, List.getElem_cons_succ, List.getElem_cons_zero, List.setIfInBounds_toArray, List.set_cons_zero, List.set_cons_succ]
      clear K
      refine wpAnyH_take (i := 8) (v := .bool false) rfl (by kernel_rfl) (by kernel_rfl) (by kernel_rfl) (fun _ _ _ h => h) (Or.inl ⟨by rfl, ?_⟩) (by assumption) ?_
      · intro w' hSw
        obtain ⟨g0, g1, g2, g3⟩ := hSw
        first | go_simp | rfl
      try simp only [Act.put, List.getElem_toArray, List.getElem_cons_succ, List.getElem_cons_zero, List.setIfInBounds_toArray, List.set_cons_zero, List.set_cons_succ]
      refine wpAnyH_take (i := 9) (v := undef) rfl (by kernel_rfl) (by kernel_rfl) (by kernel_rfl) (fun _ _ _ h => h) (Or.inr ⟨by rfl, rfl⟩) (by assumption) ?_
      try simp only [Act.put, List.getElem_toArray, List.getElem_cons_succ, List.getElem_cons_zero, List.setIfInBounds_toArray, List.set_cons_zero, List.set_cons_succ]
      refine wpAnyH_take (i := 10) (v := undef) rfl (by kernel_rfl) (by kernel_rfl) (by kernel_rfl) (fun _ _ _ h => h) (Or.inr ⟨by rfl, rfl⟩) (by assumption) ?_
      try simp only [Act.put, List.getElem_toArray, List.getElem_cons_succ, List.getElem_cons_zero, List.setIfInBounds_toArray, List.set_cons_zero, List.set_cons_succ]
      refine wpAnyH_take (i := 11) (v := undef) rfl (by kernel_rfl) (by kernel_rfl) (by kernel_rfl) (fun _ _ _ h => h) (Or.inr ⟨by rfl, rfl⟩) (by assumption) ?_
      try simp only [Act.put, List.getElem_toArray, List.getElem_cons_succ, List.getElem_cons_zero, List.setIfInBounds_toArray, List.set_cons_zero, List.set_cons_succ]
      refine wpAnyH_take (i := 12) (v := .bool false) rfl (by kernel_rfl) (by kernel_rfl) (by kernel_rfl) (fun _ _ _ h => h) (Or.inl ⟨by rfl, ?_⟩) (by assumption) ?_
      · intro w' hSw
        obtain ⟨g0, g1, g2, g3⟩ := hSw
        first | go_simp | rfl
      try simp only [Act.put, List.getElem_toArray, List.getElem_cons_succ, List.getElem_cons_zero, List.setIfInBounds_toArray, List.set_cons_zero, List.set_cons_succ]
      refine wpAnyH_take (i := 13) (v := .bool false) rfl (by kernel_rfl) (by kernel_rfl) (by kernel_rfl) (fun _ _ _ h => h) (Or.inl ⟨by rfl, ?_⟩) (by assumption) ?_
      · intro w' hSw
        obtain ⟨g0, g1, g2, g3⟩ := hSw
        first | go_simp | rfl
      try simp only [Act.put, List.getElem_toArray, List.getElem_cons_succ, List.getElem_cons_zero, List.setIfInBounds_toArray, List.set_cons_zero, List.set_cons_succ]
      refine wpAnyH_take (i := 14) (v := .bool false) rfl (by kernel_rfl) (by kernel_rfl) (by kernel_rfl) (fun _ _ _ h => h) (Or.inl ⟨by rfl, ?_⟩) (by assumption) ?_
      · intro w' hSw
        obtain ⟨g0, g1, g2, g3⟩ := hSw
        first | go_simp | rfl
      try simp only [Act.put, List.getElem_toArray, List.getElem_cons_succ, List.getElem_cons_zero, List.setIfInBounds_toArray, List.set_cons_zero, List.set_cons_succ]
      refine wpAnyH_take (i := 15) (v := .bool false) rfl (by kernel_rfl) (by kernel_rfl) (by kernel_rfl) (fun _ _ _ h => h) (Or.inl ⟨by rfl, ?_⟩) (by assumption) ?_
      · intro w' hSw
        obtain ⟨g0, g1, g2, g3⟩ := hSw
        first | go_simp | rfl
      try simp only [Act.put, List.getElem_toArray, List.getElem_cons_succ, List.getElem_cons_zero, List.setIfInBounds_toArray, List.set_cons_zero, List.set_cons_succ]
      refine wpAnyH_take (i := 16) (v := .agg #[.int .u8 k, .int .i64 v, .slice p l c]) rfl (by kernel_rfl) (by kernel_rfl) (by kernel_rfl) (fun _ _ _ h => h) (Or.inl ⟨by rfl, ?_⟩) (by assumption) ?_
      · intro w' hSw
        obtain ⟨g0, g1, g2, g3⟩ := hSw
        first | go_simp | rfl
      try simp only [Act.put, List.getElem_toArray, List.getElem_cons_succ, List.getElem_cons_zero, List.setIfInBounds_toArray, List.set_cons_zero, List.set_cons_succ]
      refine wpAnyH_take (i := 19) (v := .agg #[.int .u8 k, .int .i64 v, .slice p l c]) rfl (by kernel_rfl) (by kernel_rfl) (by kernel_rfl) (fun _ _ _ h => h) (Or.inl ⟨by rfl, ?_⟩) (by assumption) ?_
      · intro w' hSw
        obtain ⟨g0, g1, g2, g3⟩ := hSw
        first | go_simp | rfl
      try simp only [Act.put, List.getElem_toArray, List.getElem_cons_succ, List.getElem_cons_zero, List.setIfInBounds_toArray, List.set_cons_zero, List.set_cons_succ]
      refine wpAnyH_ready (rs := [17]) (by kernel_rfl) (by simp) ?_
      refine AllReadyH.cons rfl (fun K hK => ?_) AllReadyH.nil
      have HK2 := Lib.hid hK
      clear hK
      go_simp
      have hSv3 := H1.out _ _ hSv2 (box_new (.cells #[.int .u8 k, .int .i64 v, .slice p l c] 24))
      refine HK2.out _ _ hSv3 (fun hHeld => ?_)
      clear HK2 hHeld
      try simp only [Act.put, List.getElem_toArray, List.getElem_cons_succ, List.getElem_cons_zero, List.setIfInBounds_toArray, List.set_cons_zero, List.set_cons_succ]
      clear K
      refine wpAnyH_ready (rs := [18]) (by kernel_rfl) (by simp) ?_
      refine AllReadyH.cons rfl (fun K hK => ?_) AllReadyH.nil
      have HK2 := Lib.hid hK
      clear hK
      go_simp
      refine (H8.out _ hSv2).mono ?_
      rintro e v4 ⟨rfl, hSv4⟩
      refine HK2.out _ _ hSv4 (fun hHeld => ?_)
      clear HK2 hHeld
      try simp only [Act.put, List.getElem_toArray, List.getElem_cons_succ, List.getElem_cons_zero, List.setIfInBounds_toArray, List.set_cons_zero, List.set_cons_succ]
      clear K
      refine wpAnyH_ready (rs := [20]) (by kernel_rfl) (by simp) ?_
      refine AllReadyH.cons rfl (fun K hK => ?_) AllReadyH.nil
      have HK2 := Lib.hid hK
      clear hK
      go_simp
      refine (H5.out _ (by assumption)).mono ?_
      rintro e v5 ⟨rfl, hSv5⟩
      refine HK2.out _ _ hSv5 (fun hHeld => ?_)
      clear HK2 hHeld
      try simp only [Act.put, List.getElem_toArray, List.getElem_cons_succ, List.getElem_cons_zero, List.setIfInBounds_toArray, List.set_cons_zero, List.set_cons_succ]
      clear K
      refine wpAnyH_take (i := 21) (v := .bool false) rfl (by kernel_rfl) (by kernel_rfl) (by kernel_rfl) (fun _ _ _ h => h) (Or.inl ⟨by rfl, ?_⟩) (by assumption) ?_
      · intro w' hSw
        obtain ⟨g0, g1, g2, g3⟩ := hSw
        first | go_simp | rfl
      try simp only [Act.put, List.getElem_toArray, List.getElem_cons_succ, List.getElem_cons_zero, List.setIfInBounds_toArray, List.set_cons_zero, List.set_cons_succ]
      refine wpAnyH_take (i := 22) (v := .bool false) rfl (by kernel_rfl) (by kernel_rfl) (by kernel_rfl) (fun _ _ _ h => h) (Or.inl ⟨by rfl, ?_⟩) (by assumption) ?_
      · intro w' hSw
        obtain ⟨g0, g1, g2, g3⟩ := hSw
        first | go_simp | rfl
      try simp only [Act.put, List.getElem_toArray, List.getElem_cons_succ, List.getElem_cons_zero, List.setIfInBounds_toArray, List.set_cons_zero, List.set_cons_succ]
      refine wpAnyH_take (i := 23) (v := .bool false) rfl (by kernel_rfl) (by kernel_rfl) (by kernel_rfl) (fun _ _ _ h => h) (Or.inl ⟨by rfl, ?_⟩) (by assumption) ?_
      · intro w' hSw
        obtain ⟨g0, g1, g2, g3⟩ := hSw
        first | go_simp | rfl
      try simp only [Act.put, List.getElem_toArray, List.getElem_cons_succ, List.getElem_cons_zero, List.setIfInBounds_toArray, List.set_cons_zero, List.set_cons_succ]
      refine wpAnyH_take (i := 24) (v := .agg #[.int .u8 k, .int .i64 v, .slice p l c]) rfl (by kernel_rfl) (by kernel_rfl) (by kernel_rfl) (fun _ _ _ h => h) (Or.inl ⟨by rfl, ?_⟩) (by assumption) ?_
      · intro w' hSw
        obtain ⟨g0, g1, g2, g3⟩ := hSw
        first | go_simp | rfl
      try simp only [Act.put, List.getElem_toArray, List.getElem_cons_succ, List.getElem_cons_zero, List.setIfInBounds_toArray, List.set_cons_zero, List.set_cons_succ]
      refine wpAnyH_take (i := 27) (v := .agg #[.int .u8 k, .int .i64 v, .slice p l c]) rfl (by kernel_rfl) (by kernel_rfl) (by kernel_rfl) (fun _ _ _ h => h) (Or.inl ⟨by rfl, ?_⟩) (by assumption) ?_
      · intro w' hSw
        obtain ⟨g0, g1, g2, g3⟩ := hSw
        first | go_simp | rfl
      try simp only [Act.put, List.getElem_toArray, List.getElem_cons_succ, List.getElem_cons_zero, List.setIfInBounds_toArray, List.set_cons_zero, List.set_cons_succ]
      refine wpAnyH_ready (rs := [25]) (by kernel_rfl) (by simp) ?_
      refine AllReadyH.cons rfl (fun K hK => ?_) AllReadyH.nil
      have HK2 := Lib.hid hK
      clear hK
      go_simp
      have hSv6 := H1.out _ _ hSv5 (box_new (.cells #[.int .u8 k, .int .i64 v, .slice p l c] 24))
      refine HK2.out _ _ hSv6 (fun hHeld => ?_)
      clear HK2 hHeld
      try simp only [Act.put, List.getElem_toArray, List.getElem_cons_succ, List.getElem_cons_zero, List.setIfInBounds_toArray, List.set_cons_zero, List.set_cons_succ]
      clear K
      refine wpAnyH_ready (rs := [26]) (by kernel_rfl) (by simp) ?_
      refine AllReadyH.cons rfl (fun K hK => ?_) AllReadyH.nil
      have HK2 := Lib.hid hK
      clear hK
      go_simp
      refine (H9.out _ hSv5).mono ?_
      rintro e v7 ⟨rfl, hSv7⟩
      refine HK2.out _ _ hSv7 (fun hHeld => ?_)
      clear HK2 hHeld
      try simp only [Act.put, List.getElem_toArray, List.getElem_cons_succ, List.getElem_cons_zero, List.setIfInBounds_toArray, List.set_cons_zero, List.set_cons_succ]
      clear K
      refine wpAnyH_ready (rs := [28]) (by kernel_rfl) (by simp) ?_
      refine AllReadyH.cons rfl (fun K hK => ?_) AllReadyH.nil
      have HK2 := Lib.hid hK
      clear hK
      go_simp
      refine (H6.out _ (by assumption)).mono ?_
      rintro e v8 ⟨rfl, hSv8⟩
      refine HK2.out _ _ hSv8 (fun hHeld => ?_)
      clear HK2 hHeld
      try simp only [Act.put, List.getElem_toArray, List.getElem_cons_succ, List.getElem_cons_zero, List.setIfInBounds_toArray, List.set_cons_zero, List.set_cons_succ]
      clear K
      refine wpAnyH_take (i := 29) (v := .bool false) rfl (by kernel_rfl) (by kernel_rfl) (by kernel_rfl) (fun _ _ _ h => h) (Or.inl ⟨by rfl, ?_⟩) (by assumption) ?_
      · intro w' hSw
        obtain ⟨g0, g1, g2, g3⟩ := hSw
        first | go_simp | rfl
      try simp only [Act.put, List.getElem_toArray, List.getElem_cons_succ, List.getElem_cons_zero, List.setIfInBounds_toArray, List.set_cons_zero, List.set_cons_succ]
      refine wpAnyH_take (i := 30) (v := .bool false) rfl (by kernel_rfl) (by kernel_rfl) (by kernel_rfl) (fun _ _ _ h => h) (Or.inl ⟨by rfl, ?_⟩) (by assumption) ?_
      · intro w' hSw
        obtain ⟨g0, g1, g2, g3⟩ := hSw
        first | go_simp | rfl
      try simp only [Act.put, List.getElem_toArray, List.getElem_cons_succ, List.getElem_cons_zero, List.setIfInBounds_toArray, List.set_cons_zero, List.set_cons_succ]
      refine wpAnyH_done (by kernel_rfl) ?_ _
      have HS' := Lib.hid hSv8
      go_wp2_with (fail)
      refine (H7.out _ HS'.out).mono ?_
      rintro e w9 ⟨rfl, hS9⟩
      have HS9 := Lib.hid hS9
      go_wp2_with (fail)
      go_ret
      exact ⟨rfl, HS9.out.2.2.2⟩
    · rw [hmt] at h2 h3
      simp only [Bool.true_and] at h3
      obtain ⟨e1, e2⟩ := text_yes hmt
      rw [e1, e2]
      have HMT := Lib.hid hmt
      clear hmt e1 e2
      generalize hasT 5 t = X5 at *
      generalize hasT 4 t = X4 at *
      generalize wt t = Y at *
      have q1 : (X4 == X4) = true := by simp
      have q2 : (X4 != X4) = false := by simp
      have q3 : ((Y : Int) == (Y : Int)) = true := by simp
      have q4 : ((Y : Int) != (Y : Int)) = false := by simp
      have q5 : ((!X5) == (!X5)) = true := by simp
      have q6 : ((!X5) != (!X5)) = false := by simp
      have H1 := Lib.hid h1; have H2 := Lib.hid h2; have H3 := Lib.hid h3; have H4 := Lib.hid h4; have H5 := Lib.hid h5; have H6 := Lib.hid h6; have H7 := Lib.hid h7; have H8 := Lib.hid h8; have H9 := Lib.hid h9
      clear h1 h2 h3 h4 h5 h6 h7 h8 h9
      go_wp2_with (fail)
      go_region_held3 (fun W => (W.cell? ⟨w.heap.size, 0, none⟩ = some (.int .u8 k) ∧ W.cell? ⟨w.heap.size, 1, none⟩ = some (.int .i64 v) ∧ W.cell? ⟨w.heap.size, 2, none⟩ = some (.slice p l c) ∧ Below w.heap.size w W)) (first | exact hS0 | assumption | exact H1.out _ _ (by assumption) (box_new _)) (first
        | (go_at_call 12; with_reducible refine (H2.out _ ?_).mono ?_; (first | exact hS0 | assumption); rintro e w' ⟨rfl, hS'⟩)
        | (go_at_call 13; with_reducible refine (H3.out _ ?_).mono ?_; (first | exact hS0 | assumption); rintro e w' ⟨rfl, hS'⟩)
        | (go_at_call 14; with_reducible refine (H4.out _ ?_).mono ?_; (first | exact hS0 | assumption); rintro e w' ⟨rfl, hS'⟩)
        | (go_at_call 14; with_reducible refine (H5.out _ ?_).mono ?_; (first | exact hS0 | assumption); rintro e w' ⟨rfl, hS'⟩)
        | (go_at_call 17; with_reducible refine (H6.out _ ?_).mono ?_; (first | exact hS0 | assumption); rintro e w' ⟨rfl, hS'⟩)
        | (go_at_call 15; with_reducible refine (H8.out _ ?_).mono ?_; (first | exact hS0 | assumption); rintro e w' ⟨rfl, hS'⟩)
        | (go_at_call 16; with_reducible refine (H9.out _ ?_).mono ?_; (first | exact hS0 | assumption); rintro e w' ⟨rfl, hS'⟩))
      all_goals (
        have HS' := Lib.hid hS'
        go_wp2_with (fail)
        refine (HRT.out HMT.out _ HS'.out.2.2.2).mono ?_
        rintro e w8 ⟨rfl, hb8⟩
        have HS8 := Lib.hid (H1.out _ _ HS'.out hb8)
        clear hb8
        have s1 : ((jb (wordsT t)).toList == (jb (wordsT t)).toList) = true := by simp
        generalize jb (wordsT t) = J at *
        go_wp2_with (fail)
        refine (H7.out _ HS8.out).mono ?_
        rintro e w9 ⟨rfl, hS9⟩
        have HS9 := Lib.hid hS9
        go_wp2_with (fail)
        go_ret
        exact ⟨rfl, HS9.out.2.2.2⟩)
  · clear hgr
    go_wp2_with (fail)
    refine (HAW.out _ (HB.out _ HI1.out)).mono ?_
    rintro e w2 ⟨rfl, hb2⟩
    have HI2 := Lib.hid (below_then HI1.out hb2 HI1.out.size)
    clear hb2 c0 c1 c2
    go_wp2_with (fail)
    go_ret
    exact ⟨rfl, HB.out _ HI2.out⟩
end Types
end Go.Proofs.YtgcnibipikondaaDoor
