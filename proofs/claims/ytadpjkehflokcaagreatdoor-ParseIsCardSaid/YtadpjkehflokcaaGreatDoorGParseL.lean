/-The document's reading of tokens, with enough fuel: each kind of term. -/
import Derived.Test.YtadpjkehflokcaaGreatDoorGParseK
namespace Go.Proofs.YtadpjkehflokcaaGreatDoor
open Go.RowKit
set_option linter.unusedVariables false
set_option linter.unusedSimpArgs false
namespace Parse
open Token (Tok tel)
open Term (Tm Hd)

section
variable {T : List Tok}
theorem text_none {i : Nat} (h4 : (tel T i).k ≠ 4) (h5 : (tel T i).k ≠ 5) : textOf T i = ⟨#[]⟩ := by
  unfold textOf
  rw [if_neg (by rintro (h | h); exact h4 h; exact h5 h)]
theorem want_yes {i : Nat} {w : ByteArray} (h : textOf T i = w) : wantF T ⟨i, false⟩ w = ⟨i + 1, false⟩ := by
  unfold wantF; rw [if_neg (by rw [h]; simp)]
theorem get_yes {i : Nat} {k : Int} (h : (tel T i).k = k) : getF T ⟨i, false⟩ k = ⟨i + 1, false⟩ ∧ getS T ⟨i, false⟩ k = (tel T i).s := by
  unfold getF getS; rw [if_neg (by rw [h]; simp), if_neg (by rw [h]; simp)]; exact ⟨rfl, rfl⟩
theorem EU.prefix {i j : Nat} {x : Tm} (hp : preN (textOf T i) < 4) (h : EU T (i + 1) j x) : EU T i j (node (4 + preN (textOf T i)) (plA T i) [x]) := by
  obtain ⟨n, hn⟩ := h
  refine ⟨n + 1, ?_⟩
  unfold unaryF
  rw [if_neg (by simp), if_pos hp]
  show Option.map _ (unaryF T n ⟨i + 1, false⟩) = _
  rw [hn]; rfl
theorem EU.raise {i j : Nat} {x : Tm} (hr : textOf T i = wRaise) (hk : (tel T (i + 1)).k = 3) (h : EU T (i + 2) j x) : EU T i j (.node ⟨15, 0, plA T i, 0, ⟨#[]⟩, ⟨#[]⟩, (tel T (i + 1)).s⟩ [x]) := by
  obtain ⟨n, hn⟩ := h
  obtain ⟨g1, g2⟩ := get_yes hk
  refine ⟨n + 1, ?_⟩
  unfold unaryF
  rw [if_neg (by simp)]
  simp only [hr]
  rw [if_neg (by decide +kernel), if_pos trivial]
  show Option.map _ (unaryF T n (getF T ⟨i + 1, false⟩ 3)) = _
  rw [g1, hn]
  show some _ = _
  simp only [g2]
theorem EU.num {i : Nat} (hk : (tel T i).k = 1) : EU T i (i + 1) (.node ⟨1, 0, plA T i, Words.numV (tel T i).s.data.toList, ⟨#[]⟩, ⟨#[]⟩, ⟨#[]⟩⟩ []) := by
  have ht := text_none (T := T) (i := i) (by rw [hk]; decide) (by rw [hk]; decide)
  refine ⟨1, ?_⟩
  unfold unaryF
  rw [if_neg (by simp)]
  simp only [ht, hk]
  rw [if_neg (by decide +kernel), if_neg (by decide +kernel), if_pos trivial]
theorem EU.name {i : Nat} (hk : (tel T i).k = 2) : EU T i (i + 1) (.node ⟨2, 0, plA T i, 0, (tel T i).s, ⟨#[]⟩, ⟨#[]⟩⟩ []) := by
  have ht := text_none (T := T) (i := i) (by rw [hk]; decide) (by rw [hk]; decide)
  refine ⟨1, ?_⟩
  unfold unaryF
  rw [if_neg (by simp)]
  simp only [ht, hk]
  rw [if_neg (by decide +kernel), if_neg (by decide +kernel), if_neg (by decide), if_pos trivial]
theorem EU.pair {i j l : Nat} {x y : Tm} (ho : textOf T i = wOpen) (hk : (tel T i).k = 5) (h : EE T (i + 1) j x) (hc : textOf T j = wComma) (k : EE T (j + 1) l y) (hs : textOf T l = wShut) : EU T i (l + 1) (node 3 (plA T i) [x, y]) := by
  obtain ⟨n, hn⟩ := h
  obtain ⟨m, hm⟩ := k
  refine ⟨max n m + 1, ?_⟩
  unfold unaryF
  have e1 := want_yes ho
  simp only [ho, hk, e1]
  rw [if_neg (by simp), if_neg (by decide +kernel), if_neg (by decide +kernel), if_neg (by decide), if_neg (by decide), expr_grow (Nat.le_max_left n m) hn]
  show (if _ then _ else _) = _
  rw [if_neg (by show ¬ (false = true ∨ textOf T j ≠ wComma); rw [hc]; simp)]
  show Option.map _ (exprF T (max n m) ⟨j + 1, false⟩) = _
  rw [expr_grow (Nat.le_max_right n m) hm]
  show some (wantF T ⟨l, false⟩ wShut, _) = _
  rw [want_yes hs]
theorem EP.nil (j : Nat) : EP T [] ⟨j, false⟩ j [] := ⟨1, by unfold partsF; rfl⟩
theorem EP.bare {i j l : Nat} {ws : List ByteArray} {x : Tm} {xs : List Tm} (h : EE T i j x) (k : EP T ws ⟨j, false⟩ l xs) : EP T (e0 :: ws) ⟨i, false⟩ l (x :: xs) := by
  obtain ⟨n, hn⟩ := h
  obtain ⟨m, hm⟩ := k
  refine ⟨max n m + 1, ?_⟩
  unfold partsF
  rw [if_pos rfl, expr_grow (Nat.le_max_left n m) hn]
  show Option.map _ (partsF T (max n m) ws ⟨j, false⟩) = _
  rw [parts_grow (Nat.le_max_right n m) hm]; rfl
theorem EP.word {i j l : Nat} {w : ByteArray} {ws : List ByteArray} {x : Tm} {xs : List Tm} (hw : w ≠ e0) (ht : textOf T i = w) (h : EE T (i + 1) j x) (k : EP T ws ⟨j, false⟩ l xs) : EP T (w :: ws) ⟨i, false⟩ l (x :: xs) := by
  obtain ⟨n, hn⟩ := h
  obtain ⟨m, hm⟩ := k
  refine ⟨max n m + 1, ?_⟩
  unfold partsF
  rw [if_neg hw, want_yes ht, expr_grow (Nat.le_max_left n m) hn]
  show Option.map _ (partsF T (max n m) ws ⟨j, false⟩) = _
  rw [parts_grow (Nat.le_max_right n m) hm]; rfl
theorem EE.let_ {i j : Nat} {xs : List Tm} (ht : textOf T i = wLet) (hk : (tel T (i + 1)).k = 2) (h : EP T [wIs, wIn] ⟨i + 2, false⟩ j xs) : EE T i j (.node ⟨12, 0, plA T i, 0, (tel T (i + 1)).s, ⟨#[]⟩, ⟨#[]⟩⟩ xs) := by
  obtain ⟨n, hn⟩ := h
  obtain ⟨g1, g2⟩ := get_yes hk
  refine ⟨n + 1, ?_⟩
  unfold exprF
  rw [if_neg (by simp), if_pos ht, want_yes ht, g1, g2, hn]; rfl
theorem EE.letrec {i j : Nat} {xs : List Tm} (ht : textOf T i = wLetrec) (hk : (tel T (i + 1)).k = 2) (hk2 : (tel T (i + 2)).k = 2) (h : EP T [wIs, wIn] ⟨i + 3, false⟩ j xs) : EE T i j (.node ⟨13, 0, plA T i, 0, (tel T (i + 1)).s, (tel T (i + 2)).s, ⟨#[]⟩⟩ xs) := by
  obtain ⟨n, hn⟩ := h
  obtain ⟨g1, g2⟩ := get_yes hk
  obtain ⟨g3, g4⟩ := get_yes hk2
  refine ⟨n + 1, ?_⟩
  unfold exprF
  rw [if_neg (by simp), if_neg (show ¬ textOf T i = wLet by rw [ht]; decide +kernel), if_pos ht, want_yes ht, g1, g2, g3, g4, hn]; rfl
theorem EE.fn {i j : Nat} {xs : List Tm} (ht : textOf T i = wFn) (hk : (tel T (i + 1)).k = 2) (h : EP T [wArrow] ⟨i + 2, false⟩ j xs) : EE T i j (.node ⟨11, 0, plA T i, 0, ⟨#[]⟩, (tel T (i + 1)).s, ⟨#[]⟩⟩ xs) := by
  obtain ⟨n, hn⟩ := h
  obtain ⟨g1, g2⟩ := get_yes hk
  refine ⟨n + 1, ?_⟩
  unfold exprF
  rw [if_neg (by simp), if_neg (show ¬ textOf T i = wLet by rw [ht]; decide +kernel), if_neg (show ¬ textOf T i = wLetrec by rw [ht]; decide +kernel), if_pos ht, want_yes ht, g1, g2, hn]; rfl
theorem EE.if_ {i j : Nat} {xs : List Tm} (ht : textOf T i = wIf) (h : EP T [e0, wThen, wElse] ⟨i + 1, false⟩ j xs) : EE T i j (.node ⟨14, 0, plA T i, 0, ⟨#[]⟩, ⟨#[]⟩, ⟨#[]⟩⟩ xs) := by
  obtain ⟨n, hn⟩ := h
  refine ⟨n + 1, ?_⟩
  unfold exprF
  rw [if_neg (by simp), if_neg (show ¬ textOf T i = wLet by rw [ht]; decide +kernel), if_neg (show ¬ textOf T i = wLetrec by rw [ht]; decide +kernel), if_neg (show ¬ textOf T i = wFn by rw [ht]; decide +kernel), if_pos ht, want_yes ht, hn]; rfl
theorem EE.try_ {i j l : Nat} {xs ys : List Tm} (ht : textOf T i = wTry) (h : EP T [e0] ⟨i + 1, false⟩ j xs) (hw : textOf T j = wWith) (hk : (tel T (j + 1)).k = 3) (hk2 : (tel T (j + 2)).k = 2) (k : EP T [wArrow] ⟨j + 3, false⟩ l ys) :
    EE T i l (.node ⟨16, 0, plA T i, 0, ⟨#[]⟩, (tel T (j + 2)).s, (tel T (j + 1)).s⟩ (xs ++ ys)) := by
  obtain ⟨n, hn⟩ := h
  obtain ⟨m, hm⟩ := k
  obtain ⟨g1, g2⟩ := get_yes hk
  obtain ⟨g3, g4⟩ := get_yes hk2
  refine ⟨max n m + 1, ?_⟩
  unfold exprF
  rw [if_neg (by simp), if_neg (show ¬ textOf T i = wLet by rw [ht]; decide +kernel), if_neg (show ¬ textOf T i = wLetrec by rw [ht]; decide +kernel), if_neg (show ¬ textOf T i = wFn by rw [ht]; decide +kernel), if_neg (show ¬ textOf T i = wIf by rw [ht]; decide +kernel), if_pos ht, want_yes ht, parts_grow (Nat.le_max_left n m) hn]
  show Option.map _ (partsF T (max n m) [wArrow] (getF T (getF T (wantF T ⟨j, false⟩ wWith) 3) 2)) = _
  rw [want_yes hw, g1, g3, parts_grow (Nat.le_max_right n m) hm]
  show some _ = _
  simp only [want_yes hw, g1, g2, g4]
end
end Parse
end Go.Proofs.YtadpjkehflokcaaGreatDoor
