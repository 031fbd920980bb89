/- What is bound is free no more: mathematics. -/
import Derived.Test.YtkcadkjpneoobaaDoorScopeM
import Derived.Test.YtkcadkjpneoobaaDoorGTermA
namespace Go.Proofs.YtkcadkjpneoobaaDoor
open Go.RowKit
set_option linter.unusedVariables false
set_option linter.unusedSimpArgs false
namespace Scope
open Term (Tm Hd tget wt wts wts_cons wts_nil drop_tget mayT okT okK nodeB)

/-- The names but one. -/
def butF (x : ByteArray) (s : List ByteArray) : List ByteArray := s.filter fun y => !decide (y = x)
theorem butF_mem (x : ByteArray) (s : List ByteArray) (y : ByteArray) : y ∈ butF x s ↔ y ∈ s ∧ y ≠ x := by
  unfold butF
  rw [List.mem_filter]
  simp
theorem putS_but (x y : ByteArray) (s : List ByteArray) (h : y ≠ x) : butF x (putS y s) = putS y (butF x s) := by
  unfold putS
  have e : hasB (butF x s) y = hasB s y := by
    rw [Bool.eq_iff_iff, hasB_mem, hasB_mem, butF_mem]
    exact ⟨fun k => k.1, fun k => ⟨k, h⟩⟩
  rw [e]
  split
  · unfold butF
    rw [List.filter_append]
    congr 1
    simp [h]
  · rfl
theorem putS_same (x : ByteArray) (s : List ByteArray) : butF x (putS x s) = butF x s := by
  unfold putS
  split
  · unfold butF
    rw [List.filter_append]
    simp
  · rfl
theorem putS_none (s : List ByteArray) : putS ⟨#[]⟩ s = s := if_neg (fun h => h.1 rfl)
theorem hasB_cons (x y : ByteArray) (ns : List ByteArray) : hasB (x :: ns) y = (decide (x = y) || hasB ns y) := by unfold hasB; rw [List.any_cons]
/-- One name more is bound. -/
theorem freeP_but (x : ByteArray) (ns : List ByteArray) (h : Hd) (s : List ByteArray) : putS (freeP (x :: ns) h) (butF x s) = butF x (putS (freeP ns h) s) := by
  by_cases hk : h.k = 2
  · by_cases hx : h.name = x
    · have e1 : freeP (x :: ns) h = ⟨#[]⟩ := if_pos (.inr (by rw [hasB_cons, decide_eq_true hx.symm]; rfl))
      rw [e1, putS_none]
      cases hh : hasB ns h.name
      · have e2 : freeP ns h = x := by unfold freeP; rw [if_neg (by rw [hh]; simp [hk])]; exact hx
        rw [e2, putS_same]
      · have e2 : freeP ns h = ⟨#[]⟩ := if_pos (.inr hh)
        rw [e2, putS_none]
    · have e0 : freeP (x :: ns) h = freeP ns h := by
        unfold freeP
        rw [hasB_cons, decide_eq_false (fun e => hx e.symm), Bool.false_or]
      rw [e0]
      cases hh : hasB ns h.name
      · have e2 : freeP ns h = h.name := by unfold freeP; rw [if_neg (by rw [hh]; simp [hk])]
        rw [e2, putS_but _ _ _ hx]
      · have e2 : freeP ns h = ⟨#[]⟩ := if_pos (.inr hh)
        rw [e2, putS_none, putS_none]
  · have e1 : ∀ ns, freeP ns h = ⟨#[]⟩ := fun ns => if_pos (.inl hk)
    rw [e1, e1, putS_none, putS_none]
theorem boundP_cons (x : ByteArray) (ns : List ByteArray) (h : Hd) (i : Nat) : boundP (x :: ns) h i = x :: boundP ns h i := by
  unfold boundP
  split
  · rfl
  · split
    · rfl
    · split <;> rfl
def freeL (V : List (List ByteArray × Hd)) (s : List ByteArray) : List ByteArray := putL (looks freeP V) s
theorem freeL_cons (p : List ByteArray × Hd) (V : List (List ByteArray × Hd)) (s : List ByteArray) : freeL (p :: V) s = freeL V (putS (freeP p.1 p.2) s) := rfl
theorem freeL_app (V U : List (List ByteArray × Hd)) (s : List ByteArray) : freeL (V ++ U) s = freeL U (freeL V s) := by
  unfold freeL looks
  rw [List.map_append, putL_app]
theorem free_but (x : ByteArray) : ∀ (m : Nat) (t : Tm) (ns s : List ByteArray), wt t ≤ m → freeL (visT t (x :: ns)) (butF x s) = butF x (freeL (visT t ns) s)
  | 0, t, ns, s, h => by have := Term.wt_pos t; omega
  | m + 1, t, ns, s, h => by
    have hk : ∀ (n : Nat) (ts : List Tm) (h' : Hd) (i : Nat) (s : List ByteArray), wts ts ≤ n → n ≤ m → freeL (visK ts h' i (x :: ns)) (butF x s) = butF x (freeL (visK ts h' i ns) s) := by
      intro n ts
      induction ts generalizing n with
      | nil => intro h' i s _ _; rw [visK_nil, visK_nil]; rfl
      | cons t ts ih =>
        intro h' i s h1 h2
        rw [wts_cons] at h1
        rw [visK_cons, visK_cons, freeL_app, freeL_app, boundP_cons, free_but x m t _ s (by omega), ih (wts ts) h' (i + 1) _ (Nat.le_refl _) (by omega)]
    rw [visT_eq, visT_eq, freeL_cons, freeL_cons, freeP_but, hk (wts t.ks) t.ks t.h 0 _ (Nat.le_refl _) (by have := Term.wt_ks t; omega)]
theorem met_free (ts : List Tm) (h : ts.all mayT = true) : metF freeP ts = freeL (vis ts) [] := metF_eq freeP ts h
/-- A function's term, a let's term. -/
def fnT (x : ByteArray) (t : Tm) : Tm := .node ⟨11, 0, 0, 0, ⟨#[]⟩, x, ⟨#[]⟩⟩ [t]
def numT : Tm := .node ⟨1, 0, 0, 0, ⟨#[]⟩, ⟨#[]⟩, ⟨#[]⟩⟩ []
def letT (x : ByteArray) (t : Tm) : Tm := .node ⟨12, 0, 0, 0, x, ⟨#[]⟩, ⟨#[]⟩⟩ [numT, t]
theorem fn_free (x : ByteArray) (t : Tm) (ht : mayT t = true) (hf : mayT (fnT x t) = true) : metF freeP [fnT x t] = butF x (metF freeP [t]) := by
  rw [met_free [fnT x t] (by simp [hf]), met_free [t] (by simp [ht])]
  unfold vis
  simp only [List.flatMap_cons, List.flatMap_nil, List.append_nil]
  rw [visT_eq, freeL_cons]
  show freeL (visK [t] ⟨11, 0, 0, 0, ⟨#[]⟩, x, ⟨#[]⟩⟩ 0 []) (putS (freeP [] ⟨11, 0, 0, 0, ⟨#[]⟩, x, ⟨#[]⟩⟩) []) = _
  rw [visK_cons, visK_nil, List.append_nil, show freeP [] ⟨11, 0, 0, 0, ⟨#[]⟩, x, ⟨#[]⟩⟩ = ⟨#[]⟩ from if_pos (.inl (show (11 : Int) ≠ 2 by decide)), putS_none]
  exact free_but x _ t [] [] (Nat.le_refl _)
theorem let_free (x : ByteArray) (t : Tm) (ht : mayT t = true) (hl : mayT (letT x t) = true) : metF freeP [letT x t] = butF x (metF freeP [t]) := by
  rw [met_free [letT x t] (by simp [hl]), met_free [t] (by simp [ht])]
  unfold vis
  simp only [List.flatMap_cons, List.flatMap_nil, List.append_nil]
  rw [visT_eq, freeL_cons]
  show freeL (visK [numT, t] ⟨12, 0, 0, 0, x, ⟨#[]⟩, ⟨#[]⟩⟩ 0 []) (putS (freeP [] ⟨12, 0, 0, 0, x, ⟨#[]⟩, ⟨#[]⟩⟩) []) = _
  rw [visK_cons, visK_cons, visK_nil, List.append_nil, show freeP [] ⟨12, 0, 0, 0, x, ⟨#[]⟩, ⟨#[]⟩⟩ = ⟨#[]⟩ from if_pos (.inl (show (12 : Int) ≠ 2 by decide)), putS_none, freeL_app]
  have e1 : boundP [] ⟨12, 0, 0, 0, x, ⟨#[]⟩, ⟨#[]⟩⟩ 0 = [] := by
    unfold boundP
    rw [if_neg (by simp), if_neg (by simp), if_neg (by simp)]
  have e2 : boundP [] ⟨12, 0, 0, 0, x, ⟨#[]⟩, ⟨#[]⟩⟩ (0 + 1) = [x] := by
    unfold boundP
    rw [if_neg (by simp), if_neg (by simp), if_pos (.inr ⟨rfl, rfl⟩)]
    rfl
  rw [e1, e2]
  have e3 : freeL (visT numT []) [] = [] := by
    rw [visT_eq, freeL_cons]
    show freeL (visK [] _ 0 []) (putS (freeP [] ⟨1, 0, 0, 0, ⟨#[]⟩, ⟨#[]⟩, ⟨#[]⟩⟩) []) = []
    rw [visK_nil, show freeP [] ⟨1, 0, 0, 0, ⟨#[]⟩, ⟨#[]⟩, ⟨#[]⟩⟩ = ⟨#[]⟩ from if_pos (.inl (by decide)), putS_none]
    rfl
  rw [e3]
  exact free_but x _ t [] [] (Nat.le_refl _)
theorem let_may (x : ByteArray) (t : Tm) (ht : mayT t = true) (hw : wt t ≤ 3000) (hf : mayT (fnT x t) = true) : mayT (letT x t) = true := by
  unfold mayT at ht hf ⊢
  rw [Bool.and_eq_true] at ht hf ⊢
  refine ⟨decide_eq_true ?_, ?_⟩
  · have e : wt (letT x t) = 1 + wt t + 1 := by
      rw [Term.wt_ks]
      show wts [numT, t] + 1 = _
      rw [wts_cons, wts_cons, wts_nil]
      have : wt numT = 1 := by rw [Term.wt_ks]; show wts [] + 1 = 1; rw [wts_nil]
      omega
    omega
  · have h1 := hf.2
    rw [Term.okT_eq] at h1 ⊢
    rw [Bool.and_eq_true] at h1
    have h2 : nodeB ⟨11, 0, 0, 0, ⟨#[]⟩, x, ⟨#[]⟩⟩ 1 = true := h1.1
    have hn : Words.nameB x = true := by
      unfold nodeB Term.fitsB at h2
      rw [Bool.and_eq_true, Bool.and_eq_true, Bool.and_eq_true] at h2
      have h3 := h2.2.1.2
      have e : Term.argF 11 = true := rfl
      rw [e] at h3
      simpa using h3
    have h4 : okK [numT, t] = true := by
      have e1 : okK [numT, t] = (okT numT && okK [t]) := by conv => lhs; unfold okK
      have e2 : okK [t] = (okT t && okK []) := by conv => lhs; unfold okK
      have e3 : okK [] = true := by unfold okK; rfl
      have e4 : okT numT = true := by decide +kernel
      rw [e1, e2, e3, e4, ht.2]
      rfl
    rw [Bool.and_eq_true]
    refine ⟨?_, h4⟩
    show nodeB ⟨12, 0, 0, 0, x, ⟨#[]⟩, ⟨#[]⟩⟩ 2 = true
    rw [Term.nodeB_yes (by simp [Term.kidsN, Term.opOk, Term.nOk])]
    show (Term.fitsB (Term.nameF 12) x (Words.nameB x) && Term.fitsB (Term.argF 12) ⟨#[]⟩ (Words.nameB ⟨#[]⟩) && Term.fitsB (Term.exnF 12) ⟨#[]⟩ (Words.exnB ⟨#[]⟩)) = true
    rw [hn]
    unfold Term.fitsB
    simp [Term.nameF, Term.argF, Term.exnF]
    rfl
end Scope
end Go.Proofs.YtkcadkjpneoobaaDoor
