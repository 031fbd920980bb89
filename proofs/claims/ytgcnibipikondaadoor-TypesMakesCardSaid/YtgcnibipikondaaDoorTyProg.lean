/- The walks of the program's May, Closed, Arrows and Size. -/
import Derived.Test.YtgcnibipikondaaDoorTyAll
namespace Go.Proofs.YtgcnibipikondaaDoor
open Go.RowKit
set_option linter.unusedVariables false
namespace Types

/-- A slice of one type, just laid. -/
theorem kids_one {w : World} {h : Hd} {p : Option Addr} {l c : Nat} {t : Ty} (hT : TyIs w h p l c t) (ty : TypeId) (N : Nat) (hN : N = w.heap.size) :
    Kids (w.alloc (.cells #[.int .u8 h.k, .int .i64 h.v, .slice p l c] ty)) (some ⟨N, 0, none⟩) [t] := by
  subst hN
  have hb : Below w.heap.size w (w.alloc (.cells #[.int .u8 h.k, .int .i64 h.v, .slice p l c] ty)) := (Below.refl _ _).alloc (Nat.le_refl _) _
  have hg : tget [t] 0 = t := rfl
  refine .atkids _ 0 [t] (fun _ => p) (fun _ => c) (fun i hi => ?_) (fun i hi j v hv => ?_) (fun i hi => ?_) (fun i hi => ?_)
  all_goals
    have hi0 : i = 0 := by simp at hi; omega
    subst hi0
  · rw [hg, hT.head]; exact hT.ok
  · rw [hg, hT.head, hT.len] at hv
    rw [show (0 + 0 * 3 + j) = j from by omega, World.cell?_alloc_mark]
    simpa [tcells] using hv
  · rw [hg, hT.len]; exact hT.cap
  · rw [hg]; exact hT.kids.stay hb
/-- A slice of two types, just laid. -/
theorem kids_two {w : World} {h h' : Hd} {p p' : Option Addr} {l c l' c' : Nat} {t u : Ty} (hT : TyIs w h p l c t) (hU : TyIs w h' p' l' c' u) (ty : TypeId) (N : Nat) (hN : N = w.heap.size) :
    Kids (w.alloc (.cells #[.int .u8 h.k, .int .i64 h.v, .slice p l c, .int .u8 h'.k, .int .i64 h'.v, .slice p' l' c'] ty)) (some ⟨N, 0, none⟩) [t, u] := by
  subst hN
  have hb : Below w.heap.size w (w.alloc (.cells #[.int .u8 h.k, .int .i64 h.v, .slice p l c, .int .u8 h'.k, .int .i64 h'.v, .slice p' l' c'] ty)) := (Below.refl _ _).alloc (Nat.le_refl _) _
  have hg0 : tget [t, u] 0 = t := rfl
  have hg1 : tget [t, u] 1 = u := rfl
  refine .atkids _ 0 [t, u] (fun i => if i = 0 then p else p') (fun i => if i = 0 then c else c') (fun i hi => ?_) (fun i hi j v hv => ?_) (fun i hi => ?_) (fun i hi => ?_)
  all_goals
    have hi0 : i = 0 ∨ i = 1 := by simp at hi; omega
    rcases hi0 with rfl | rfl
  · rw [hg0, hT.head]; exact hT.ok
  · rw [hg1, hU.head]; exact hU.ok
  · rw [hg0, hT.head, hT.len] at hv
    rw [show (0 + 0 * 3 + j) = j from by omega, World.cell?_alloc_mark]
    simp only [if_pos] at hv
    have hj : j < 3 := by
      rcases Nat.lt_or_ge j 3 with h | h
      · exact h
      · rw [List.getElem?_eq_none (by simpa [tcells] using h)] at hv; cases hv
    have hjj : j = 0 ∨ j = 1 ∨ j = 2 := by omega
    rcases hjj with rfl | rfl | rfl <;> simpa [tcells] using hv
  · rw [hg1, hU.head, hU.len] at hv
    rw [show (0 + 1 * 3 + j) = 3 + j from by omega, World.cell?_alloc_mark]
    simp only [show ¬ (1 : Nat) = 0 from by decide, if_false] at hv
    have hj : j < 3 := by
      rcases Nat.lt_or_ge j 3 with h | h
      · exact h
      · rw [List.getElem?_eq_none (by simpa [tcells] using h)] at hv; cases hv
    have hjj : j = 0 ∨ j = 1 ∨ j = 2 := by omega
    rcases hjj with rfl | rfl | rfl <;> simpa [tcells] using hv
  · rw [hg0, hT.len]; exact hT.cap
  · rw [hg1, hU.len]; exact hU.cap
  · rw [hg0]; exact hT.kids.stay hb
  · rw [hg1]; exact hU.kids.stay hb
/-- A box of a type, read later. -/
theorem box3 {V W : World} {N : Nat} (hN : N = V.heap.size) {a0 a1 a2 : Value} {ty : TypeId} (hb : Below (V.alloc (.cells #[a0, a1, a2] ty)).heap.size (V.alloc (.cells #[a0, a1, a2] ty)) W) :
    W.cell? ⟨N, 0, none⟩ = some a0 ∧ W.cell? ⟨N, 1, none⟩ = some a1 ∧ W.cell? ⟨N, 2, none⟩ = some a2 := by
  subst hN
  exact ⟨box_at hb 0 rfl, box_at hb 1 rfl, box_at hb 2 rfl⟩
theorem below_row {B : Nat} {a w1 w2 : World} {O : Obj} (h : Below B a w1) (hb : Below (w1.alloc O).heap.size (w1.alloc O) w2) (hB : B ≤ w1.heap.size) : Below B a w2 :=
  h.trans (((box_new O).trans (hb.mono (by simp))).mono hB)

theorem one_le : 1 ≤ maxLen := by unfold maxLen; omega
theorem fits_tells : Tells 30 nodeB := fun h p l c w ho hl hk => fits_walk h p l c w ho hl hk
set_option maxHeartbeats 1600000 in
theorem closed1_tells : Tells 31 closedB := by
  intro h p l c w ho hl hk
  have hf := fun O : Obj => fits_walk h p l c (w.alloc O) ho hl (hk.below (box_new O))
  have hcl : closedB h l = (nodeB h l && decide (h.k ≠ 5)) := rfl
  obtain ⟨k, v⟩ := h
  have HF := Lib.hid hf; have HC := Lib.hid hcl
  clear hf hcl ho hk hl
  go_enter Tryd.func31, Tryd.ntmps31
  go_wp2_with (fail)
  refine (HF.out _).mono ?_
  rintro e w1 ⟨rfl, hb1⟩
  obtain ⟨c0, c1, c2⟩ := box3 (N := w.heap.size) rfl hb1
  have HB1 := Lib.hid ((box_new (w := w) (.cells #[.int .u8 k, .int .i64 v, .slice p l c] 24)).trans (hb1.mono (by simp)))
  clear hb1
  cases hb : nodeB ⟨k, v⟩ l
  · have hr : closedB ⟨k, v⟩ l = false := by rw [HC.out, hb]; rfl
    have HR := Lib.hid hr
    clear hr hb
    go_wp2_with (fail)
    go_ret
    exact ⟨ret_bool HR.out.symm, HB1.out⟩
  · have hr : closedB ⟨k, v⟩ l = (k != 5) := by rw [HC.out, hb]; simp [bne, Bool.beq_eq_decide_eq]
    have HR := Lib.hid hr
    clear hr hb
    go_wp2_with (fail)
    go_ret
    exact ⟨ret_bool HR.out.symm, HB1.out⟩
set_option maxHeartbeats 1600000 in
theorem arrows1_tells : Tells 32 (isNot 4) := by
  intro h p l c w ho hl hk
  have hcl : isNot 4 h l = (h.k != 4) := by unfold isNot; simp [bne, Bool.beq_eq_decide_eq]
  obtain ⟨k, v⟩ := h
  have HC := Lib.hid hcl
  clear hcl ho hk hl
  go_enter Tryd.func32, Tryd.ntmps32
  go_wp2_with (fail)
  go_ret
  exact ⟨ret_bool HC.out.symm, box_new _⟩
set_option maxHeartbeats 1600000 in
theorem may_walk (t : Ty) (h : Hd) (p : Option Addr) (l c : Nat) (w : World) (hT : TyIs w h p l c t) (hk : KidsLaid w) :
    Calls Tryd.prog 12 #[.agg #[.int .u8 h.k, .int .i64 h.v, .slice p l c]] w fun e w' => e = .returned (.bool (mayT t)) ∧ Below w.heap.size w w' := by
  have hK := fun O : Obj => kids_one (hT.below (box_new O)) 24 (w.heap.size + 1) (by simp)
  have hD : ∀ O O' : Obj, KidsLaid ((w.alloc O).alloc O') := fun O O' => (hk.below (box_new O)).below (box_new O')
  have ha := fun O : Obj => allFits_walk nodeB fits_tells (wts [t]) [t] _ 1 1 _ (Nat.le_refl _) (List.length_singleton) one_le (hK O) (hD O _)
  rw [allK_one] at ha
  have hm : mayT t = allT nodeB t := rfl
  obtain ⟨k, v⟩ := h
  have HA := Lib.hid ha; have HM := Lib.hid hm
  clear ha hm hT hk hK hD
  generalize allT nodeB t = X at *
  go_enter Tryd.func12, Tryd.ntmps12
  go_wp2_with (fail)
  refine (HA.out _).mono ?_
  rintro e w1 ⟨rfl, hb1⟩
  have HB1 := Lib.hid (below_row (box_new (w := w) (.cells #[.int .u8 k, .int .i64 v, .slice p l c] 24)) hb1 (by simp))
  clear hb1
  go_wp2_with (fail)
  go_ret
  exact ⟨ret_bool HM.out.symm, HB1.out⟩
set_option maxHeartbeats 1600000 in
theorem closed_walk (t : Ty) (h : Hd) (p : Option Addr) (l c : Nat) (w : World) (hT : TyIs w h p l c t) (hk : KidsLaid w) :
    Calls Tryd.prog 13 #[.agg #[.int .u8 h.k, .int .i64 h.v, .slice p l c]] w fun e w' => e = .returned (.bool (closedT t)) ∧ Below w.heap.size w w' := by
  have hK := fun O : Obj => kids_one (hT.below (box_new O)) 24 (w.heap.size + 1) (by simp)
  have hD : ∀ O O' : Obj, KidsLaid ((w.alloc O).alloc O') := fun O O' => (hk.below (box_new O)).below (box_new O')
  have ha := fun O : Obj => allClosed_walk closedB closed1_tells (wts [t]) [t] _ 1 1 _ (Nat.le_refl _) (List.length_singleton) one_le (hK O) (hD O _)
  rw [allK_one] at ha
  have hm : closedT t = allT closedB t := rfl
  obtain ⟨k, v⟩ := h
  have HA := Lib.hid ha; have HM := Lib.hid hm
  clear ha hm hT hk hK hD
  generalize allT closedB t = X at *
  go_enter Tryd.func13, Tryd.ntmps13
  go_wp2_with (fail)
  refine (HA.out _).mono ?_
  rintro e w1 ⟨rfl, hb1⟩
  have HB1 := Lib.hid (below_row (box_new (w := w) (.cells #[.int .u8 k, .int .i64 v, .slice p l c] 24)) hb1 (by simp))
  clear hb1
  go_wp2_with (fail)
  go_ret
  exact ⟨ret_bool HM.out.symm, HB1.out⟩
set_option maxHeartbeats 1600000 in
theorem arrows_walk (ts : List Ty) (p : Option Addr) (l d : Nat) (w : World) (hl : ts.length = l) (hlm : l ≤ maxLen) (hk : Kids w p ts) (hkl : KidsLaid w) :
    Calls Tryd.prog 15 #[.slice p l d] w fun e w' => e = .returned (.bool (hasK 4 ts)) ∧ Below w.heap.size w w' := by
  have ha := allArrows_walk (isNot 4) arrows1_tells (wts ts) ts p l d w (Nat.le_refl _) hl hlm hk hkl
  have hm : hasK 4 ts = !allK (isNot 4) ts := rfl
  have HA := Lib.hid ha; have HM := Lib.hid hm
  clear ha hm hl hlm hk hkl
  generalize allK (isNot 4) ts = X at *
  go_enter Tryd.func15, Tryd.ntmps15
  go_wp2_with (fail)
  refine (HA.out).mono ?_
  rintro e w1 ⟨rfl, hb1⟩
  have HB1 := Lib.hid hb1
  clear hb1
  cases X
  all_goals
    go_wp2_with (fail)
    go_ret
    exact ⟨ret_bool HM.out.symm, HB1.out⟩
end Types
end Go.Proofs.YtgcnibipikondaaDoor
