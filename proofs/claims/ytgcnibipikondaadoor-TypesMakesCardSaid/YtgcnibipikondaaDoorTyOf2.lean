/- The walks of the program's Int, Pair and Ref. -/
import Derived.Test.YtgcnibipikondaaDoorTyOf
namespace Go.Proofs.YtgcnibipikondaaDoor
open Go.RowKit
set_option linter.unusedVariables false
namespace Types

theorem ty_up {B M N : Nat} {w2 : World} {h : Hd} {q : Option Addr} {l c : Nat} {t : Ty} (hT : TyIs (veil (from_ M) w2) h q l c t) (x y z : Value) (hN : N < M) (hB : B ≤ M) :
    TyIs (veil (from_ B) (((w2.setCell ⟨N, 0, none⟩ x).setCell ⟨N, 1, none⟩ y).setCell ⟨N, 2, none⟩ z)) h q l c t :=
  hT.reads' (veil_to fun b hb hp => by
    have hp' : M ≤ b := of_decide_eq_true hp
    exact ⟨decide_eq_true (by omega), set3_other _ _ _ _ _ (by omega)⟩)
set_option maxRecDepth 10000 in
set_option maxHeartbeats 6400000 in
theorem int_walk (w : World) : Calls Tryd.prog 23 #[] w (OfEnd 1 [] w) := by
  have ho := fun O : Obj => of_walk 1 (by omega) [] none 0 0 (w.alloc O) (by rw [wts_nil]; omega) rfl (by omega) (.nokids _)
  have HO := Lib.hid ho
  clear ho
  go_enter Tryd.func23, Tryd.ntmps23
  go_wp2_with (fail)
  refine (HO.out _).mono ?_
  rintro e w2 ⟨q2, c2, rfl, hT, hb2⟩
  have hX := (hb2.block w.heap.size (by simp)).trans (heap_alloc_new w _)
  obtain ⟨⟨x0, x1, x2⟩, y0, y1, y2⟩ := cells3 hX
  have HB2 := Lib.hid ((box_new (w := w) (.cells #[.int .u8 0, .int .i64 0, .slice none 0 0] 24)).trans (hb2.mono (by simp)))
  have HT := Lib.hid hT
  clear hX hb2 hT
  go_wp2_with (fail)
  refine bodyPost_ret (v := .agg #[.int .u8 1, .int .i64 0, .slice q2 0 c2]) (by simp [results, Tryd.results23, go_sem, x0, x1, x2]) rfl ?_
  exact ⟨q2, c2, rfl, ty_up HT.out _ _ _ (by simp) (by simp), HB2.out.trans (set3_below _ _ _ (Nat.le_refl _))⟩
set_option maxRecDepth 10000 in
set_option maxHeartbeats 6400000 in
theorem ref_walk (t : Ty) (h : Hd) (p : Option Addr) (l c : Nat) (w : World) (hT : TyIs w h p l c t) (hw : wt t ≤ 50000) :
    Calls Tryd.prog 25 #[.agg #[.int .u8 h.k, .int .i64 h.v, .slice p l c]] w (OfEnd 3 [t] w) := by
  have hbox : ∀ O O' : Obj, Below w.heap.size w ((w.alloc O).alloc O') := fun O O' => (box_new O).trans ((box_new O').mono (by simp))
  have hk := fun O O' : Obj => kids_one (hT.below (hbox O O')) 24 (w.heap.size + 1 + 1) (by simp)
  have ho := fun O O' : Obj => of_walk 3 (by omega) [t] _ 1 1 _ (by rw [wts_cons, wts_nil]; omega) rfl (by omega) (hk O O')
  obtain ⟨k, v⟩ := h
  have HO := Lib.hid ho; have HBOX := Lib.hid hbox
  clear ho hk hbox hT
  go_enter Tryd.func25, Tryd.ntmps25
  go_wp2_with (fail)
  refine (HO.out _ _).mono ?_
  rintro e w2 ⟨q2, c2, rfl, hT, hb2⟩
  have hX : w2.heap[w.heap.size + 1]? = some (.cells #[.int .u8 0, .int .i64 0, .slice none 0 0] 24 (0, 0)) := by
    rw [hb2.block _ (by simp), Below.heap_alloc _ _ _ (by simp)]
    have := heap_alloc_new (w.alloc (.cells #[.int .u8 k, .int .i64 v, .slice p l c] 24)) (.cells #[.int .u8 0, .int .i64 0, .slice none 0 0] 24)
    rwa [show (w.alloc (.cells #[.int .u8 k, .int .i64 v, .slice p l c] 24)).heap.size = w.heap.size + 1 from by simp] at this
  obtain ⟨⟨x0, x1, x2⟩, y0, y1, y2⟩ := cells3 hX
  have HB2 := Lib.hid (below_row (HBOX.out (.cells #[.int .u8 k, .int .i64 v, .slice p l c] 24) (.cells #[.int .u8 0, .int .i64 0, .slice none 0 0] 24)) hb2 (HBOX.out _ _).size)
  have HT := Lib.hid hT
  clear hX hb2 hT
  go_wp2_with (fail)
  refine bodyPost_ret (v := .agg #[.int .u8 3, .int .i64 0, .slice q2 1 c2]) (by simp [results, Tryd.results25, go_sem, x0, x1, x2]) rfl ?_
  exact ⟨q2, c2, rfl, ty_up HT.out _ _ _ (by simp) (by simp; omega), HB2.out.trans (set3_below _ _ _ (by omega))⟩
set_option maxRecDepth 10000 in
set_option maxHeartbeats 6400000 in
theorem pair_walk (t u : Ty) (h h' : Hd) (p p' : Option Addr) (l c l' c' : Nat) (w : World) (hT : TyIs w h p l c t) (hU : TyIs w h' p' l' c' u) (hw : wt t + wt u ≤ 50000) :
    Calls Tryd.prog 24 #[.agg #[.int .u8 h.k, .int .i64 h.v, .slice p l c], .agg #[.int .u8 h'.k, .int .i64 h'.v, .slice p' l' c']] w (OfEnd 2 [t, u] w) := by
  have hbox : ∀ O O' O'' : Obj, Below w.heap.size w (((w.alloc O).alloc O').alloc O'') := fun O O' O'' => ((box_new O).trans ((box_new O').mono (by simp))).trans ((box_new O'').mono (by simp; omega))
  have hk := fun O O' O'' : Obj => kids_two (hT.below (hbox O O' O'')) (hU.below (hbox O O' O'')) 24 (w.heap.size + 1 + 1 + 1) (by simp)
  have ho := fun O O' O'' : Obj => of_walk 2 (by omega) [t, u] _ 2 2 _ (by rw [wts_cons, wts_cons, wts_nil]; omega) rfl (by omega) (hk O O' O'')
  obtain ⟨k, v⟩ := h
  obtain ⟨k', v'⟩ := h'
  have HO := Lib.hid ho; have HBOX := Lib.hid hbox
  clear ho hk hbox hT hU
  go_enter Tryd.func24, Tryd.ntmps24
  go_wp2_with (fail)
  refine (HO.out _ _ _).mono ?_
  rintro e w2 ⟨q2, c2, rfl, hT, hb2⟩
  have hX : w2.heap[w.heap.size + 1 + 1]? = some (.cells #[.int .u8 0, .int .i64 0, .slice none 0 0] 24 (0, 0)) := by
    rw [hb2.block _ (by simp), Below.heap_alloc _ _ _ (by simp)]
    have := heap_alloc_new ((w.alloc (.cells #[.int .u8 k, .int .i64 v, .slice p l c] 24)).alloc (.cells #[.int .u8 k', .int .i64 v', .slice p' l' c'] 24)) (.cells #[.int .u8 0, .int .i64 0, .slice none 0 0] 24)
    rwa [show ((w.alloc (.cells #[.int .u8 k, .int .i64 v, .slice p l c] 24)).alloc (.cells #[.int .u8 k', .int .i64 v', .slice p' l' c'] 24)).heap.size = w.heap.size + 1 + 1 from by simp] at this
  obtain ⟨⟨x0, x1, x2⟩, y0, y1, y2⟩ := cells3 hX
  have HB2 := Lib.hid (below_row (HBOX.out (.cells #[.int .u8 k, .int .i64 v, .slice p l c] 24) (.cells #[.int .u8 k', .int .i64 v', .slice p' l' c'] 24) (.cells #[.int .u8 0, .int .i64 0, .slice none 0 0] 24)) hb2 (HBOX.out _ _ _).size)
  have HT := Lib.hid hT
  clear hX hb2 hT
  go_wp2_with (fail)
  refine bodyPost_ret (v := .agg #[.int .u8 2, .int .i64 0, .slice q2 2 c2]) (by simp [results, Tryd.results24, go_sem, x0, x1, x2]) rfl ?_
  exact ⟨q2, c2, rfl, ty_up HT.out _ _ _ (by simp) (by simp; omega), HB2.out.trans (set3_below _ _ _ (by omega))⟩
end Types
end Go.Proofs.YtgcnibipikondaaDoor
