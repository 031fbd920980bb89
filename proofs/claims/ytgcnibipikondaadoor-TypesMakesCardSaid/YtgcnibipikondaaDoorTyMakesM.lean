/- For layer 8's statement on what is made of types: the document's Of; parts of a row of types. -/
import Derived.Test.YtgcnibipikondaaDoorTyAwake
import Derived.Test.YtgcnibipikondaaDoorTyRefB
import Derived.Test.YtgcnibipikondaaDoorTyOf2
namespace Go.Proofs.YtgcnibipikondaaDoor
open Go.RowKit
set_option linter.unusedVariables false
namespace Types

set_option maxRecDepth 10000 in
set_option maxHeartbeats 3200000 in
theorem refOf_walk (k : Int) (p : Option Addr) (l c : Nat) (w : World) :
    Calls Tryd.prog 21 #[.int .u8 k, .slice p l c] w fun e w' => e = .returned (.agg #[.int .u8 k, .int .i64 0, .slice p l c]) ∧ Below w.heap.size w w' := by
  go_enter Tryd.func21, Tryd.ntmps21
  go_wp2_with (fail)
  refine bodyPost_ret (v := .agg #[.int .u8 k, .int .i64 0, .slice p l c]) (by simp [results, Tryd.results21, go_sem]) rfl ?_
  exact ⟨rfl, by first | exact box_new _ | exact ((box_new _).trans (set3_below _ _ _ (Nat.le_refl _)))⟩
theorem tget_take {ts : List Ty} {n i : Nat} (h : i < n) (hi : i < ts.length) : tget (ts.take n) i = tget ts i := by
  unfold tget
  rw [List.getD_eq_getElem?_getD, List.getD_eq_getElem?_getD, List.getElem?_take, if_pos h]
theorem tget_drop {ts : List Ty} {n i : Nat} : tget (ts.drop n) i = tget ts (n + i) := by
  unfold tget
  rw [List.getD_eq_getElem?_getD, List.getD_eq_getElem?_getD, List.getElem?_drop]
theorem Kids.take {w : World} {p : Option Addr} {ts : List Ty} (h : Kids w p ts) (n : Nat) : Kids w p (ts.take n) := by
  cases h with
  | nokids p => rw [List.take_nil]; exact .nokids _
  | atkids b o _ q c hh hc hl hk =>
    have hlt : ∀ i, i < (ts.take n).length → i < n ∧ i < ts.length := fun i hi => by rw [List.length_take] at hi; omega
    refine .atkids b o _ q c (fun i hi => ?_) (fun i hi j v hv => ?_) (fun i hi => ?_) (fun i hi => ?_)
    all_goals obtain ⟨h1, h2⟩ := hlt i hi
    · rw [tget_take h1 h2]; exact hh i h2
    · rw [tget_take h1 h2] at hv; exact hc i h2 j v hv
    · rw [tget_take h1 h2]; exact hl i h2
    · rw [tget_take h1 h2]; exact hk i h2
theorem Kids.drop {w : World} {b o : Nat} {ts : List Ty} (h : Kids w (some ⟨b, o, none⟩) ts) (n : Nat) : Kids w (some ⟨b, o + n * 3, none⟩) (ts.drop n) := by
  cases h with
  | nokids p => rw [List.drop_nil]; exact .nokids _
  | atkids b o _ q c hh hc hl hk =>
    have hlt : ∀ i, i < (ts.drop n).length → n + i < ts.length := fun i hi => by rw [List.length_drop] at hi; omega
    refine .atkids b (o + n * 3) _ (fun i => q (n + i)) (fun i => c (n + i)) (fun i hi => ?_) (fun i hi j v hv => ?_) (fun i hi => ?_) (fun i hi => ?_)
    all_goals have h1 := hlt i hi
    · rw [tget_drop]; exact hh _ h1
    · rw [tget_drop] at hv
      have := hc _ h1 j v hv
      rw [show o + n * 3 + i * 3 + j = o + (n + i) * 3 + j from by omega]
      exact this
    · rw [tget_drop]; exact hl _ h1
    · rw [tget_drop]; exact hk _ h1
theorem fn_one (a : Ty) : fnT [a] = a := rfl
theorem fn_cons (a b : Ty) (r : List Ty) : fnT (a :: b :: r) = .node ⟨4, 0⟩ [a, fnT (b :: r)] := by
  unfold fnT
  rw [List.reverse_cons]
  obtain ⟨x, y, e⟩ : ∃ x y, (b :: r).reverse = x :: y := by
    cases h : (b :: r).reverse with
    | nil => have := congrArg List.length h; simp at this
    | cons x y => exact ⟨x, y, rfl⟩
  rw [e]
  show List.foldl (fun t a => Ty.node ⟨4, 0⟩ [a, t]) x (y ++ [a]) = _
  rw [List.foldl_append]
  rfl
/-- What is wanted, before element j is put ahead. -/
theorem fn_drop {ts : List Ty} {j : Nat} (h : j + 1 < ts.length) : fnT (ts.drop j) = .node ⟨4, 0⟩ [tget ts j, fnT (ts.drop (j + 1))] := by
  rw [drop_tget ts j (by omega), drop_tget ts (j + 1) h, fn_cons]
theorem fn_last {ts : List Ty} {j : Nat} (h : j + 1 = ts.length) : fnT (ts.drop j) = tget ts j := by
  rw [drop_tget ts j (by omega), List.drop_eq_nil_of_le (by omega), fn_one]
theorem wts_drop_le (ts : List Ty) (j : Nat) (hj : j < ts.length) : wts (ts.drop j) = wt (tget ts j) + wts (ts.drop (j + 1)) := by
  rw [drop_tget ts j hj, wts_cons]
theorem ok_node {k : Int} (h : 0 ≤ k ∧ k ≤ 255) : HdOk ⟨k, 0⟩ := ⟨h, by show (-9223372036854775808 : Int) ≤ 0 ∧ (0 : Int) ≤ 9223372036854775807; omega⟩
end Types
end Go.Proofs.YtgcnibipikondaaDoor
