/- What is met at the nodes of terms: mathematics. -/
import Derived.Test.YtkcadkjpneoobaaDoorScopeG
import Derived.Test.YtkcadkjpneoobaaDoorScopeJ
import Derived.Test.YtkcadkjpneoobaaDoorScopeH
namespace Go.Proofs.YtkcadkjpneoobaaDoor
open Go.RowKit
set_option linter.unusedVariables false
set_option linter.unusedSimpArgs false
namespace Scope
open Term (Tm Hd tget wt wts wts_cons wts_nil drop_tget mayT okT okK)

mutual
/-- All nodes, each ahead of its kids, with the names that are bound there. -/
def visT : Tm → List ByteArray → List (List ByteArray × Hd)
  | .node h l, ns => (ns, h) :: visK l h 0 ns
def visK : List Tm → Hd → Nat → List ByteArray → List (List ByteArray × Hd)
  | [], _, _, _ => []
  | t :: ts, h, i, ns => visT t (boundP ns h i) ++ visK ts h (i + 1) ns
end
theorem visT_eq (t : Tm) (ns : List ByteArray) : visT t ns = (ns, t.h) :: visK t.ks t.h 0 ns := by
  cases t
  conv => lhs; unfold visT
  rfl
theorem visK_nil (h : Hd) (i : Nat) (ns : List ByteArray) : visK [] h i ns = [] := by unfold visK; rfl
theorem visK_cons (t : Tm) (ts : List Tm) (h : Hd) (i : Nat) (ns : List ByteArray) : visK (t :: ts) h i ns = visT t (boundP ns h i) ++ visK ts h (i + 1) ns := by conv => lhs; unfold visK
/-- Texts that are met, one after another. -/
def putL (L : List ByteArray) (s : List ByteArray) : List ByteArray := L.foldl (fun s x => putS x s) s
theorem putL_nil (s : List ByteArray) : putL [] s = s := rfl
theorem putL_cons (x : ByteArray) (L s : List ByteArray) : putL (x :: L) s = putL L (putS x s) := rfl
theorem putL_app (L M s : List ByteArray) : putL (L ++ M) s = putL M (putL L s) := by unfold putL; rw [List.foldl_append]
def looks (look : List ByteArray → Hd → ByteArray) (V : List (List ByteArray × Hd)) : List ByteArray := V.map fun p => look p.1 p.2
theorem scT_met (look : List ByteArray → Hd → ByteArray) : ∀ (m : Nat) (t : Tm) (ns s : List ByteArray), wt t ≤ m → scT (fun _ _ _ => true) (metS look) t ns s = (true, putL (looks look (visT t ns)) s)
  | 0, t, ns, s, h => by have := Term.wt_pos t; omega
  | m + 1, t, ns, s, h => by
    have hk : ∀ (n : Nat) (ts : List Tm) (h' : Hd) (i : Nat) (s : List ByteArray), wts ts ≤ n → n ≤ m → scK (fun _ _ _ => true) (metS look) ts h' i ns s = (true, putL (looks look (visK ts h' i ns)) s) := by
      intro n ts
      induction ts generalizing n with
      | nil => intro h' i s _ _; rw [scK_nil, visK_nil]; rfl
      | cons t ts ih =>
        intro h' i s h1 h2
        rw [wts_cons] at h1
        have ht := scT_met look m t (boundP ns h' i) s (by omega)
        rw [scK_cons, ht, if_pos rfl, ih (wts ts) h' (i + 1) _ (Nat.le_refl _) (by omega), visK_cons]
        unfold looks
        rw [List.map_append, putL_app]
    rw [scT_eq, if_pos rfl, hk (wts t.ks) t.ks t.h 0 _ (Nat.le_refl _) (by have := Term.wt_ks t; omega), visT_eq]
    rfl
def vis (ts : List Tm) : List (List ByteArray × Hd) := ts.flatMap fun t => visT t []
theorem scL_met (look : List ByteArray → Hd → ByteArray) : ∀ (ts : List Tm) (s : List ByteArray), scL (fun _ _ _ => true) (metS look) [] ts s = (true, putL (looks look (vis ts)) s)
  | [], s => rfl
  | t :: ts, s => by
    rw [scL, scT_met look _ t [] s (Nat.le_refl _), if_pos rfl, scL_met look ts]
    unfold vis looks
    rw [List.flatMap_cons, List.map_append, putL_app]
theorem metF_eq (look : List ByteArray → Hd → ByteArray) (ts : List Tm) (h : ts.all mayT = true) : metF look ts = putL (looks look (vis ts)) [] := by
  unfold metF
  rw [if_pos h, scL_met]
theorem hasB_mem (s : List ByteArray) (x : ByteArray) : hasB s x = true ↔ x ∈ s := by
  unfold hasB
  rw [List.any_eq_true]
  constructor
  · rintro ⟨y, hy, e⟩
    have := of_decide_eq_true e
    rwa [this] at hy
  · intro h
    exact ⟨x, h, decide_eq_true rfl⟩
theorem hasB_no (s : List ByteArray) (x : ByteArray) : hasB s x = false ↔ x ∉ s := by
  rw [← hasB_mem]
  cases hasB s x <;> simp
theorem putS_mem (x : ByteArray) (s : List ByteArray) (y : ByteArray) : y ∈ putS x s ↔ y ∈ s ∨ (y = x ∧ x ≠ ⟨#[]⟩) := by
  unfold putS
  split
  · rename_i h
    rw [List.mem_append, List.mem_singleton]
    exact ⟨fun k => k.imp id fun e => ⟨e, h.1⟩, fun k => k.imp id fun e => e.1⟩
  · rename_i h
    refine ⟨.inl, fun k => k.elim id fun ⟨e, h1⟩ => ?_⟩
    rw [e]
    exact (hasB_mem s x).1 (by cases hh : hasB s x with
      | true => rfl
      | false => exact absurd ⟨h1, hh⟩ h)
theorem putL_mem : ∀ (L s : List ByteArray) (y : ByteArray), y ∈ putL L s ↔ y ∈ s ∨ (y ∈ L ∧ y ≠ ⟨#[]⟩)
  | [], s, y => by rw [putL_nil]; simp
  | x :: L, s, y => by
    rw [putL_cons, putL_mem L, putS_mem, List.mem_cons]
    constructor
    · rintro ((h | ⟨rfl, h⟩) | ⟨h, k⟩)
      · exact .inl h
      · exact .inr ⟨.inl rfl, h⟩
      · exact .inr ⟨.inr h, k⟩
    · rintro (h | ⟨rfl | h, k⟩)
      · exact .inl (.inl h)
      · exact .inl (.inr ⟨rfl, k⟩)
      · exact .inr ⟨h, k⟩
/-- What was met is met at once. -/
theorem putS_put (x : ByteArray) (s a : List ByteArray) : putL (putS x a) s = putS x (putL a s) := by
  by_cases hx : x = ⟨#[]⟩
  · have e : ∀ b, putS x b = b := fun b => if_neg (fun h => h.1 hx)
    rw [e, e]
  · cases hh : hasB a x
    · have e : putS x a = a ++ [x] := if_pos ⟨hx, hh⟩
      rw [e, putL_app]
      rfl
    · have e : putS x a = a := if_neg (fun h => by have := h.2; rw [hh] at this; cases this)
      rw [e]
      have hm : x ∈ putL a s := (putL_mem a s x).2 (.inr ⟨(hasB_mem a x).1 hh, hx⟩)
      exact (if_neg (fun h => by have := (hasB_no _ x).1 h.2; exact this hm)).symm
theorem putL_put : ∀ (L s a : List ByteArray), putL (putL L a) s = putL L (putL a s)
  | [], s, a => rfl
  | x :: L, s, a => by rw [putL_cons, putL_cons, putL_put L, putS_put]
theorem putL_nil_iff (L : List ByteArray) : putL L [] = [] ↔ ∀ x ∈ L, x = ⟨#[]⟩ := by
  constructor
  · intro h x hx
    by_cases e : x = ⟨#[]⟩
    · exact e
    · have : x ∈ putL L [] := (putL_mem L [] x).2 (.inr ⟨hx, e⟩)
      rw [h] at this
      cases this
  · intro h
    apply List.eq_nil_iff_forall_not_mem.2
    intro y hy
    rcases (putL_mem L [] y).1 hy with k | ⟨k, e⟩
    · cases k
    · exact e (h y k)
/-- Two terms together. -/
theorem met_two (look : List ByteArray → Hd → ByteArray) (a b : Tm) (ha : mayT a = true) (hb : mayT b = true) : metF look [a, b] = putL (metF look [b]) (metF look [a]) := by
  rw [metF_eq look [a, b] (by simp [ha, hb]), metF_eq look [a] (by simp [ha]), metF_eq look [b] (by simp [hb])]
  unfold vis looks
  simp only [List.flatMap_cons, List.flatMap_nil, List.append_nil, List.map_append]
  rw [putL_app, putL_put]
  rfl
/-- Names that are met are none that is empty. -/
theorem met_ne (look : List ByteArray → Hd → ByteArray) (ts : List Tm) : ∀ x ∈ metF look ts, x ≠ ⟨#[]⟩ := by
  intro x hx
  unfold metF at hx
  split at hx
  · rw [scL_met] at hx
    rcases (putL_mem _ _ x).1 hx with h | h
    · cases h
    · exact h.2
  · cases hx
theorem putS_le (x : ByteArray) (s : List ByteArray) : (putS x s).length ≤ s.length + 1 := putS_len x s
theorem putL_len : ∀ (L s : List ByteArray), (putL L s).length ≤ s.length + L.length
  | [], s => by rw [putL_nil]; simp
  | x :: L, s => by
    rw [putL_cons]
    have h1 := putL_len L (putS x s)
    have h2 := putS_len x s
    rw [List.length_cons]
    omega
theorem visT_len : ∀ (m : Nat) (t : Tm) (ns : List ByteArray), wt t ≤ m → (visT t ns).length = wt t
  | 0, t, ns, h => by have := Term.wt_pos t; omega
  | m + 1, t, ns, h => by
    have hk : ∀ (n : Nat) (ts : List Tm) (h' : Hd) (i : Nat), wts ts ≤ n → n ≤ m → (visK ts h' i ns).length = wts ts := by
      intro n ts
      induction ts generalizing n with
      | nil => intro h' i _ _; rw [visK_nil, wts_nil]; rfl
      | cons t ts ih =>
        intro h' i h1 h2
        rw [wts_cons] at h1
        rw [visK_cons, List.length_append, visT_len m t _ (by omega), ih (wts ts) h' (i + 1) (Nat.le_refl _) (by omega), wts_cons]
    rw [visT_eq, List.length_cons, hk (wts t.ks) t.ks t.h 0 (Nat.le_refl _) (by have := Term.wt_ks t; omega), Term.wt_ks]
theorem vis_len : ∀ ts : List Tm, (vis ts).length = wts ts
  | [] => by unfold vis; rw [wts_nil]; rfl
  | t :: ts => by
    have h1 := vis_len ts
    unfold vis at h1 ⊢
    rw [List.flatMap_cons, List.length_append, visT_len _ t [] (Nat.le_refl _), h1, wts_cons]
theorem met_len (look : List ByteArray → Hd → ByteArray) (ts : List Tm) : (metF look ts).length ≤ wts ts := by
  unfold metF
  split
  · rw [scL_met]
    have h := putL_len (looks look (vis ts)) []
    have h2 := vis_len ts
    have h3 : (looks look (vis ts)).length = (vis ts).length := by unfold looks; rw [List.length_map]
    show (putL (looks look (vis ts)) []).length ≤ _
    rw [h3, h2] at h
    simpa using h
  · simp
/-! ### Closed -/
theorem scT_cl (decl : List ByteArray) : ∀ (m : Nat) (t : Tm) (ns : List ByteArray) (s : Int × Int), wt t ≤ m → scT (clB decl) (clS decl) t ns s = match (visT t ns).find? (fun p => !clN decl p.1 p.2) with
    | none => (true, s)
    | some p => (false, (p.2.pl, 4))
  | 0, t, ns, s, h => by have := Term.wt_pos t; omega
  | m + 1, t, ns, s, h => by
    have hk : ∀ (n : Nat) (ts : List Tm) (h' : Hd) (i : Nat) (s : Int × Int), wts ts ≤ n → n ≤ m → scK (clB decl) (clS decl) ts h' i ns s = match (visK ts h' i ns).find? (fun p => !clN decl p.1 p.2) with
        | none => (true, s)
        | some p => (false, (p.2.pl, 4)) := by
      intro n ts
      induction ts generalizing n with
      | nil => intro h' i s _ _; rw [scK_nil, visK_nil]; rfl
      | cons t ts ih =>
        intro h' i s h1 h2
        rw [wts_cons] at h1
        have ht := scT_cl decl m t (boundP ns h' i) s (by omega)
        rw [scK_cons, ht, visK_cons, List.find?_append]
        cases hf : (visT t (boundP ns h' i)).find? (fun p => !clN decl p.1 p.2) with
        | none =>
          rw [if_pos rfl, ih (wts ts) h' (i + 1) _ (Nat.le_refl _) (by omega)]
          rfl
        | some p =>
          rw [if_neg Bool.false_ne_true]
          rfl
    rw [scT_eq, visT_eq, List.find?_cons]
    show (if clN decl ns t.h = true then scK (clB decl) (clS decl) t.ks t.h 0 ns (if clN decl ns t.h = true then s else (t.h.pl, 4)) else (false, if clN decl ns t.h = true then s else (t.h.pl, 4))) = _
    cases hc : clN decl ns t.h
    · rw [if_neg Bool.false_ne_true, if_neg Bool.false_ne_true]
      rfl
    · rw [if_pos rfl, if_pos rfl]
      exact hk (wts t.ks) t.ks t.h 0 _ (Nat.le_refl _) (by have := Term.wt_ks t; omega)
end Scope
end Go.Proofs.YtkcadkjpneoobaaDoor
