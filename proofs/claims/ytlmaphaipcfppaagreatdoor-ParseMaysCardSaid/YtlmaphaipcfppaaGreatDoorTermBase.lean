/- Terms: what the walks share. -/
import Derived.Test.YtlmaphaipcfppaaGreatDoorTermData
import Derived.LoopTactic
import Derived.Outline
import Derived.Lib.Hide
import Derived.IntWalk
namespace Go.Proofs.YtlmaphaipcfppaaGreatDoor
open Go.RowKit
set_option linter.unusedVariables false
namespace Term

theorem ret_i64 {a b : Int} (h : a = b) : Ending.returned (.int .i64 a) = .returned (.int .i64 b) := by rw [h]
theorem ret_bool {a b : Bool} (h : a = b) : Ending.returned (.bool a) = .returned (.bool b) := by rw [h]
theorem drop_tget (ts : List Tm) (k : Nat) (h : k < ts.length) : ts.drop k = tget ts k :: ts.drop (k + 1) := by
  rw [List.drop_eq_getElem_cons h]
  have := tget_at h
  rw [List.getElem?_eq_getElem h] at this
  rw [Option.some.inj this]
/-- A block just laid reads as it was laid, whatever came behind it. -/
theorem boxAt {w W : World} {cs : Array Value} {t : TypeId} (hb : Below (w.alloc (.cells cs t)).heap.size (w.alloc (.cells cs t)) W) (j : Nat) {v : Value} (hv : cs[j]? = some v) : W.cell? ⟨w.heap.size, j, none⟩ = some v := by
  have hlt : w.heap.size < (w.alloc (.cells cs t)).heap.size := by simp
  rw [hb.cell (p := ⟨w.heap.size, j, none⟩) hlt, World.cell?_alloc_mark, hv]

mutual
/-- How many nodes stand one in the other. -/
def depT : Tm → Nat
  | .node _ l => depK l + 1
def depK : List Tm → Nat
  | [] => 0
  | t :: ts => max (depT t) (depK ts)
end
theorem depT_eq (t : Tm) : depT t = depK t.ks + 1 := by cases t; unfold depT; rfl
theorem depK_nil : depK [] = 0 := by unfold depK; rfl
theorem depK_cons (t : Tm) (ts : List Tm) : depK (t :: ts) = max (depT t) (depK ts) := by conv => lhs; unfold depK
theorem depK_append : ∀ ts us : List Tm, depK (ts ++ us) = max (depK ts) (depK us)
  | [], us => by rw [depK_nil]; simp
  | t :: ts, us => by rw [List.cons_append, depK_cons, depK_cons, depK_append ts us]; omega
theorem dep_le : ∀ m : Nat, (∀ t, wt t ≤ m → depT t ≤ wt t) ∧ (∀ ts, wts ts ≤ m → depK ts ≤ wts ts) := by
  intro m
  induction m with
  | zero =>
    refine ⟨fun t h => by have := wt_pos t; omega, fun ts h => ?_⟩
    cases ts with
    | nil => rw [depK_nil]; omega
    | cons t ts => rw [wts_cons] at h; have := wt_pos t; omega
  | succ m ih =>
    have hT : ∀ t, wt t ≤ m + 1 → depT t ≤ wt t := by
      intro t h
      have hk := wt_ks t
      have := ih.2 t.ks (by omega)
      rw [depT_eq]
      omega
    refine ⟨hT, fun ts => ?_⟩
    induction ts with
    | nil => intro _; rw [depK_nil]; omega
    | cons t ts ihs =>
      intro h
      rw [wts_cons] at h
      have h1 := hT t (by omega)
      have h2 := ihs (by omega)
      rw [depK_cons, wts_cons]
      omega
theorem take_tget (ts : List Tm) (k : Nat) (h : k < ts.length) : ts.take (k + 1) = ts.take k ++ [tget ts k] := by
  rw [List.take_add_one, tget_at h]; rfl
theorem depK_take (ts : List Tm) (k : Nat) (h : k < ts.length) : depK (ts.take (k + 1)) = max (depK (ts.take k)) (depT (tget ts k)) := by
  rw [take_tget ts k h, depK_append, depK_cons, depK_nil]; omega
theorem wts_take_le : ∀ (ts : List Tm) (k : Nat), wts (ts.take k) ≤ wts ts
  | [], k => by simp
  | t :: ts, 0 => by rw [List.take_zero, wts_nil]; omega
  | t :: ts, k + 1 => by rw [List.take_succ_cons, wts_cons, wts_cons]; have := wts_take_le ts k; omega
end Term
end Go.Proofs.YtlmaphaipcfppaaGreatDoor
