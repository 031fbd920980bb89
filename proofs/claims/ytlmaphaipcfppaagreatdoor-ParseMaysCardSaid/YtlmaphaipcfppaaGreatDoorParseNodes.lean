/- A term that comes of tokens may be, and each of its nodes begins at one of them. -/
import Derived.Test.YtlmaphaipcfppaaGreatDoorGParseA
import Derived.Test.YtlmaphaipcfppaaGreatDoorTermOk
namespace Go.Proofs.YtlmaphaipcfppaaGreatDoor
open Go.RowKit
set_option linter.unusedVariables false
namespace Parse
open Token (Tok tel)
open Term (Tm Hd wt wts okT okK flatT flatK nodeB kidsN fitsB nameF argF exnF opOk nOk)
open Words (nameB exnB)

/-- Each node begins at a token ahead of the end. -/
def Pl (T : List Tok) (a : Int) : Prop := ∃ j, j < T.length ∧ (tel T j).k ≠ 6 ∧ a = plA T j
def PlT (T : List Tok) (t : Tm) : Prop := ∀ u ∈ flatT t, Pl T u.h.pl
def PlK (T : List Tok) (ts : List Tm) : Prop := ∀ u ∈ flatK ts, Pl T u.h.pl
theorem plK_nil (T : List Tok) : PlK T [] := fun u hu => by unfold flatK at hu; cases hu
theorem plK_cons {T : List Tok} {t : Tm} {ts : List Tm} (h : PlT T t) (k : PlK T ts) : PlK T (t :: ts) := fun u hu => by
  unfold flatK at hu
  rcases List.mem_append.1 hu with hu | hu
  · exact h u hu
  · exact k u hu
theorem plT_node {T : List Tok} {h : Hd} {ks : List Tm} (h0 : Pl T h.pl) (k : PlK T ks) : PlT T (.node h ks) := fun u hu => by
  unfold flatT at hu
  rcases List.mem_cons.1 hu with rfl | hu
  · exact h0
  · exact k u hu
theorem plT_head {T : List Tok} {t : Tm} (h : PlT T t) : Pl T t.h.pl := h t (by rw [Term.flatT_eq]; exact List.mem_cons_self)
theorem pl_pos {T : List Tok} {a : Int} (h : Pl T a) : 0 ≤ a := by obtain ⟨j, _, _, rfl⟩ := h; unfold plA; omega

theorem okT_node {h : Hd} {ks : List Tm} (h0 : nodeB h ks.length = true) (k : okK ks = true) : okT (.node h ks) = true := by unfold okT; rw [h0, k]; rfl
theorem ok1 {t : Tm} (h : okT t = true) : okK [t] = true := by rw [Term.okK_cons, h, Term.okK_nil]; rfl
theorem ok2 {t u : Tm} (h : okT t = true) (k : okT u = true) : okK [t, u] = true := by rw [Term.okK_cons, h, ok1 k]; rfl
theorem ok3 {t u v : Tm} (h : okT t = true) (k : okT u = true) (l : okT v = true) : okK [t, u, v] = true := by rw [Term.okK_cons, h, ok2 k l]; rfl
theorem okK_append : ∀ ts us : List Tm, okK ts = true → okK us = true → okK (ts ++ us) = true
  | [], us, _, h => h
  | t :: ts, us, h, k => by
    rw [Term.okK_cons, Bool.and_eq_true] at h
    rw [List.cons_append, Term.okK_cons, h.1, okK_append ts us h.2 k]; rfl
theorem plK_append {T : List Tok} : ∀ ts us : List Tm, PlK T ts → PlK T us → PlK T (ts ++ us)
  | [], us, _, h => h
  | t :: ts, us, h, k => by
    rw [List.cons_append]
    refine plK_cons (fun u hu => h u (by unfold flatK; exact List.mem_append_left _ hu)) (plK_append ts us (fun u hu => h u (by unfold flatK; exact List.mem_append_right _ hu)) k)
theorem nodeB_of {k op pl n : Int} {nm ar ex : ByteArray} {l : Nat} (h1 : kidsN k = l) (h2 : 0 ≤ pl) (h3 : if k = 9 then 1 ≤ op ∧ op ≤ 5 else op = 0) (h4 : 0 ≤ n ∧ n ≤ 2147483647 ∧ (k ≠ 1 → n = 0)) (h5 : fitsB (nameF k) nm (nameB nm) = true) (h6 : fitsB (argF k) ar (nameB ar) = true) (h7 : fitsB (exnF k) ex (exnB ex) = true) : nodeB ⟨k, op, pl, n, nm, ar, ex⟩ l = true := by
  unfold nodeB
  have hd : kidsN k = l ∧ 0 ≤ pl ∧ opOk ⟨k, op, pl, n, nm, ar, ex⟩ ∧ nOk ⟨k, op, pl, n, nm, ar, ex⟩ := ⟨h1, h2, h3, h4⟩
  rw [decide_eq_true hd, h5, h6, h7]; rfl
theorem fits_no (s : ByteArray) (b : Bool) (h : s = ⟨#[]⟩) : fitsB false s b = true := by subst h; rfl
theorem fits_yes {s : ByteArray} (b : Bool) (h : b = true) : fitsB true s b = true := by subst h; rfl

section
variable {T : List Tok} (hG : Good T)
theorem Good.row_next {T : List Tok} (hG : Good T) {i : Nat} (hi : i < T.length) (hk : (tel T i).k ≠ 6) : Pl T (plA T i) := ⟨i, hi, hk, rfl⟩
/-- What is known where a part was read. -/
def NodeOk (T : List Tok) (s : St) (r : St × Tm) : Prop := r.1.bad = false → s.bad = false ∧ s.i ≤ r.1.i ∧ okT r.2 = true ∧ PlT T r.2 ∧ wt r.2 + 1 + 2 * s.i ≤ 2 * r.1.i
def PartsOk (T : List Tok) (s : St) (ws : List ByteArray) (q : St × List Tm) : Prop := q.1.bad = false → s.bad = false ∧ s.i ≤ q.1.i ∧ okK q.2 = true ∧ PlK T q.2 ∧ wts q.2 + ws.length + 2 * s.i ≤ 2 * q.1.i ∧ q.2.length = ws.length
def LoopOk (T : List Tok) (s : St) (a : Tm) (r : St × Tm) : Prop := r.1.bad = false → okT a = true → PlT T a → s.bad = false ∧ s.i ≤ r.1.i ∧ okT r.2 = true ∧ PlT T r.2 ∧ wt r.2 + 2 * s.i ≤ wt a + 2 * r.1.i
theorem want_good {ts : List Tok} {s : St} {w : ByteArray} (h : (wantF ts s w).bad = false) : s.bad = false ∧ (wantF ts s w).i = s.i + 1 ∧ textOf ts s.i = w := by
  unfold wantF at h ⊢
  split
  · rename_i hc; rw [if_pos hc] at h; cases h
  · rename_i hc
    refine ⟨by cases hb : s.bad; rfl; exact absurd (.inl hb) hc, rfl, Classical.not_not.1 fun e => hc (.inr e)⟩
theorem get_good {ts : List Tok} {s : St} {k : Int} (h : (getF ts s k).bad = false) : s.bad = false ∧ (getF ts s k).i = s.i + 1 ∧ (tel ts s.i).k = k ∧ getS ts s k = (tel ts s.i).s := by
  unfold getF at h ⊢
  unfold getS
  split
  · rename_i hc; rw [if_pos hc] at h; cases h
  · rename_i hc
    refine ⟨by cases hb : s.bad; rfl; exact absurd (.inl hb) hc, rfl, Classical.not_not.1 fun e => hc (.inr e), rfl⟩
end
theorem good_name {T : List Tok} (hG : Good T) {i : Nat} (hi : i < T.length) (h : (tel T i).k = 2) : nameB (tel T i).s = true := (hG.good i hi (by omega)).name h
theorem good_exn {T : List Tok} (hG : Good T) {i : Nat} (hi : i < T.length) (h : (tel T i).k = 3) : exnB (tel T i).s = true := (hG.good i hi (by omega)).exn h
theorem num_range (l : List UInt8) : 0 ≤ Words.numV l ∧ Words.numV l ≤ 2147483647 := by
  unfold Words.numV
  split
  · rename_i h
    unfold Words.numB at h
    simp only [Bool.and_eq_true, decide_eq_true_eq] at h
    have := h.2
    omega
  · omega
theorem wt_node (h : Hd) (ks : List Tm) : wt (.node h ks) = wts ks + 1 := by rw [Term.wt_ks]; rfl
theorem wts1 (t : Tm) : wts [t] = wt t := by rw [Term.wts_cons, Term.wts_nil]; omega
theorem wts2 (t u : Tm) : wts [t, u] = wt t + wt u := by rw [Term.wts_cons, wts1]
theorem pos_of_on {ts : List Tok} (hG : Good ts) {i : Nat} {w : ByteArray} (hi : i < ts.length) (hw : w ∈ wordsL) (h : textOf ts i = w) : (tel ts i).k ≠ 6 := by
  have := textOf_some ts (i := i) (by rw [h]; exact (words_apart w hw).2.2.2)
  omega
theorem in_mem' {l : List ByteArray} {x : ByteArray} (h : inF l x = true) : x ∈ l := by
  unfold inF at h
  obtain ⟨y, hy, e⟩ := List.any_eq_true.1 h
  rw [← of_decide_eq_true e]; exact hy
theorem signs_six (k : Nat) : ∀ x ∈ signsF k, x ∈ [wPut, wLess, wIs, wAdd, wSub, wMul] := by
  intro x hx
  unfold signsF at hx
  repeat' split at hx
  all_goals (simp at hx; try rcases hx with rfl | rfl)
  all_goals (try subst hx)
  all_goals simp
theorem op_ok : ∀ x ∈ [wPut, wLess, wIs, wAdd, wSub, wMul], kidsN (opK x) = 2 ∧ (if opK x = 9 then 1 ≤ opO x ∧ opO x ≤ 5 else opO x = 0) ∧ nameF (opK x) = false ∧ argF (opK x) = false ∧ exnF (opK x) = false := by decide +kernel
theorem fitsN {b : Bool} {s : ByteArray} {o : Bool} (h : b = false) (hs : s = ⟨#[]⟩) : fitsB b s o = true := by subst h; exact fits_no s o hs
theorem fitsY {b : Bool} {s : ByteArray} {o : Bool} (h : b = true) (ho : o = true) : fitsB b s o = true := by subst h; exact fits_yes o ho
theorem n0 {k : Int} : (0 : Int) ≤ 0 ∧ (0 : Int) ≤ 2147483647 ∧ (k ≠ 1 → (0 : Int) = 0) := ⟨Int.le_refl _, by omega, fun _ => rfl⟩
/-- Where nothing was thrown, what a part read may be. -/
theorem nodes_all {T : List Tok} (hG : Good T) : ∀ n : Nat,
    (∀ s r, s.i < T.length → exprF T n s = some r → NodeOk T s r) ∧ (∀ ws s q, s.i < T.length → (∀ w ∈ ws, w = e0 ∨ w ∈ wordsL) → partsF T n ws s = some q → PartsOk T s ws q) ∧
    (∀ k s r, s.i < T.length → levelF T n k s = some r → NodeOk T s r) ∧ (∀ k s a r, s.i < T.length → loopF T n k s a = some r → LoopOk T s a r) ∧
    (∀ s r, s.i < T.length → applyF T n s = some r → NodeOk T s r) ∧ (∀ s a r, s.i < T.length → aloopF T n s a = some r → LoopOk T s a r) ∧
    (∀ s r, s.i < T.length → unaryF T n s = some r → NodeOk T s r) := by
  intro n
  induction n with
  | zero => refine ⟨?_, ?_, ?_, ?_, ?_, ?_, ?_⟩ <;> (intros; simp_all [exprF, partsF, levelF, loopF, applyF, aloopF, unaryF])
  | succ n ih =>
    obtain ⟨iE, iP, iL, iO, iA, iB, iU⟩ := ih
    have LT := lt_all T hG.row n
    have W : ∀ {s : St} {w : ByteArray}, w ∈ wordsL → s.i < T.length → (wantF T s w).i < T.length := fun hw hs => want_lt T hG.row (words_apart _ hw).2.2.2 hs
    have G : ∀ {s : St} {k : Int}, k ≠ 6 → s.i < T.length → (getF T s k).i < T.length := fun hk hs => get_lt T hG.row hk hs
    refine ⟨fun s r hs he => ?_, fun ws s q hs hws he => ?_, fun k s r hs he => ?_, fun k s a r hs he => ?_, fun s r hs he => ?_, fun s a r hs he => ?_, fun s r hs he => ?_⟩
    · unfold exprF at he
      split at he
      · rename_i hb; injection he with he; rw [← he]; intro hb'; rw [show ((s, zeroT) : St × Tm).1.bad = s.bad from rfl, hb] at hb'; cases hb'
      split at he
      · obtain ⟨q, hq, he⟩ := Option.map_eq_some_iff.1 he
        rw [← he]; intro hb
        have l1 := W (s := s) (w := wLet) (by simp [wordsL]) hs
        obtain ⟨p1, p2, p3, p4, p5, p6⟩ := iP [wIs, wIn] _ q (G (by decide) l1) (fun w hw => by simp at hw; rcases hw with rfl | rfl <;> first | exact .inl rfl | (exact .inr (by simp [wordsL]))) hq hb
        obtain ⟨g1, g2, g3, g4⟩ := get_good p1
        obtain ⟨a1, a2, a3⟩ := want_good g1
        have k6 := pos_of_on hG hs (by simp [wordsL]) a3
        have p6' : q.2.length = 2 := p6
        have p5' : wts q.2 + 2 + 2 * (getF T (wantF T s wLet) 2).i ≤ 2 * q.1.i := p5
        refine ⟨a1, by show s.i ≤ q.1.i; omega, okT_node (by rw [p6', g4]; exact (nodeB_of (k := 12) (l := 2) (by decide) (pl_pos ⟨s.i, hs, k6, rfl⟩) (by decide) n0 (fitsY (by decide) (good_name hG l1 g3)) (fitsN (by decide) rfl) (fitsN (by decide) rfl))) p3, plT_node ⟨s.i, hs, k6, rfl⟩ p4, ?_⟩
        show wt (.node _ q.2) + 1 + 2 * s.i ≤ 2 * q.1.i
        rw [wt_node]; omega
      split at he
      · obtain ⟨q, hq, he⟩ := Option.map_eq_some_iff.1 he
        rw [← he]; intro hb
        have l1 := W (s := s) (w := wLetrec) (by simp [wordsL]) hs
        have l2 := G (s := wantF T s wLetrec) (k := 2) (by decide) l1
        obtain ⟨p1, p2, p3, p4, p5, p6⟩ := iP [wIs, wIn] _ q (G (by decide) l2) (fun w hw => by simp at hw; rcases hw with rfl | rfl <;> first | exact .inl rfl | (exact .inr (by simp [wordsL]))) hq hb
        obtain ⟨f1, f2, f3, f4⟩ := get_good p1
        obtain ⟨g1, g2, g3, g4⟩ := get_good f1
        obtain ⟨a1, a2, a3⟩ := want_good g1
        have k6 := pos_of_on hG hs (by simp [wordsL]) a3
        have p6' : q.2.length = 2 := p6
        have p5' : wts q.2 + 2 + 2 * (getF T (getF T (wantF T s wLetrec) 2) 2).i ≤ 2 * q.1.i := p5
        refine ⟨a1, by show s.i ≤ q.1.i; omega, okT_node (by rw [p6', g4, f4]; exact (nodeB_of (k := 13) (l := 2) (by decide) (pl_pos ⟨s.i, hs, k6, rfl⟩) (by decide) n0 (fitsY (by decide) (good_name hG l1 g3)) (fitsY (by decide) (good_name hG l2 f3)) (fitsN (by decide) rfl))) p3, plT_node ⟨s.i, hs, k6, rfl⟩ p4, ?_⟩
        show wt (.node _ q.2) + 1 + 2 * s.i ≤ 2 * q.1.i
        rw [wt_node]; omega
      split at he
      · obtain ⟨q, hq, he⟩ := Option.map_eq_some_iff.1 he
        rw [← he]; intro hb
        have l1 := W (s := s) (w := wFn) (by simp [wordsL]) hs
        obtain ⟨p1, p2, p3, p4, p5, p6⟩ := iP [wArrow] _ q (G (by decide) l1) (fun w hw => by simp at hw; subst hw; first | exact .inl rfl | (exact .inr (by simp [wordsL]))) hq hb
        obtain ⟨g1, g2, g3, g4⟩ := get_good p1
        obtain ⟨a1, a2, a3⟩ := want_good g1
        have k6 := pos_of_on hG hs (by simp [wordsL]) a3
        have p6' : q.2.length = 1 := p6
        have p5' : wts q.2 + 1 + 2 * (getF T (wantF T s wFn) 2).i ≤ 2 * q.1.i := p5
        refine ⟨a1, by show s.i ≤ q.1.i; omega, okT_node (by rw [p6', g4]; exact (nodeB_of (k := 11) (l := 1) (by decide) (pl_pos ⟨s.i, hs, k6, rfl⟩) (by decide) n0 (fitsN (by decide) rfl) (fitsY (by decide) (good_name hG l1 g3)) (fitsN (by decide) rfl))) p3, plT_node ⟨s.i, hs, k6, rfl⟩ p4, ?_⟩
        show wt (.node _ q.2) + 1 + 2 * s.i ≤ 2 * q.1.i
        rw [wt_node]; omega
      split at he
      · obtain ⟨q, hq, he⟩ := Option.map_eq_some_iff.1 he
        rw [← he]; intro hb
        have l1 := W (s := s) (w := wIf) (by simp [wordsL]) hs
        obtain ⟨p1, p2, p3, p4, p5, p6⟩ := iP [e0, wThen, wElse] _ q l1 (fun w hw => by simp at hw; rcases hw with rfl | rfl | rfl <;> first | exact .inl rfl | (exact .inr (by simp [wordsL]))) hq hb
        obtain ⟨a1, a2, a3⟩ := want_good p1
        have k6 := pos_of_on hG hs (by simp [wordsL]) a3
        have p6' : q.2.length = 3 := p6
        have p5' : wts q.2 + 3 + 2 * (wantF T s wIf).i ≤ 2 * q.1.i := p5
        refine ⟨a1, by show s.i ≤ q.1.i; omega, okT_node (by rw [p6']; exact (nodeB_of (k := 14) (l := 3) (by decide) (pl_pos ⟨s.i, hs, k6, rfl⟩) (by decide) n0 (fitsN (by decide) rfl) (fitsN (by decide) rfl) (fitsN (by decide) rfl))) p3, plT_node ⟨s.i, hs, k6, rfl⟩ p4, ?_⟩
        show wt (.node _ q.2) + 1 + 2 * s.i ≤ 2 * q.1.i
        rw [wt_node]; omega
      split at he
      · obtain ⟨q, hq, he⟩ := Option.bind_eq_some_iff.1 he
        obtain ⟨q2, hq2, he⟩ := Option.map_eq_some_iff.1 he
        rw [← he]; intro hb
        have l1 := W (s := s) (w := wTry) (by simp [wordsL]) hs
        have l2 := LT.2.1 _ _ q l1 hq
        have l3 := W (s := q.1) (w := wWith) (by simp [wordsL]) l2
        have l4 := G (s := wantF T q.1 wWith) (k := 3) (by decide) l3
        obtain ⟨p1, p2, p3, p4, p5, p6⟩ := iP [wArrow] _ q2 (G (by decide) l4) (fun w hw => by simp at hw; subst hw; first | exact .inl rfl | (exact .inr (by simp [wordsL]))) hq2 hb
        obtain ⟨f1, f2, f3, f4⟩ := get_good p1
        obtain ⟨g1, g2, g3, g4⟩ := get_good f1
        obtain ⟨b1, b2, b3⟩ := want_good g1
        obtain ⟨c1, c2, c3, c4, c5, c6⟩ := iP [e0] _ q l1 (fun w hw => by simp at hw; subst hw; first | exact .inl rfl | (exact .inr (by simp [wordsL]))) hq b1
        obtain ⟨a1, a2, a3⟩ := want_good c1
        have k6 := pos_of_on hG hs (by simp [wordsL]) a3
        have p6' : q2.2.length = 1 := p6
        have c6' : q.2.length = 1 := c6
        have p5' : wts q2.2 + 1 + 2 * (getF T (getF T (wantF T q.1 wWith) 3) 2).i ≤ 2 * q2.1.i := p5
        have c5' : wts q.2 + 1 + 2 * (wantF T s wTry).i ≤ 2 * q.1.i := c5
        refine ⟨a1, by show s.i ≤ q2.1.i; omega, okT_node (by rw [List.length_append, p6', c6', g4, f4]; exact (nodeB_of (k := 16) (l := 2) (by decide) (pl_pos ⟨s.i, hs, k6, rfl⟩) (by decide) n0 (fitsN (by decide) rfl) (fitsY (by decide) (good_name hG l4 f3)) (fitsY (by decide) (good_exn hG l3 g3)))) (okK_append _ _ c3 p3), plT_node ⟨s.i, hs, k6, rfl⟩ (plK_append _ _ c4 p4), ?_⟩
        show wt (.node _ (q.2 ++ q2.2)) + 1 + 2 * s.i ≤ 2 * q2.1.i
        rw [wt_node, Term.wts_append]; omega
      · exact iL 0 s r hs he
    · cases ws with
      | nil =>
        unfold partsF at he
        injection he with he
        rw [← he]
        exact fun hb => ⟨hb, Nat.le_refl _, Term.okK_nil, plK_nil T, by show wts [] + 0 + 2 * s.i ≤ 2 * s.i; rw [Term.wts_nil]; omega, rfl⟩
      | cons w ws =>
        unfold partsF at he
        obtain ⟨r, hr, he⟩ := Option.bind_eq_some_iff.1 he
        obtain ⟨q1, hq, he⟩ := Option.map_eq_some_iff.1 he
        have hw := hws w List.mem_cons_self
        have hs1 : (if w = e0 then s else wantF T s w).i < T.length := by
          split
          · exact hs
          · rename_i hne; exact W (hw.resolve_left hne) hs
        have hrl := LT.1 _ r hs1 hr
        have hN := iE _ r hs1 hr
        have hP := iP ws r.1 q1 hrl (fun x hx => hws x (List.mem_cons_of_mem _ hx)) hq
        rw [← he]
        intro hb
        obtain ⟨p1, p2, p3, p4, p5, p6⟩ := hP hb
        obtain ⟨n1, n2, n3, n4, n5⟩ := hN p1
        have hst : s.bad = false ∧ s.i ≤ (if w = e0 then s else wantF T s w).i := by
          by_cases hwe : w = e0
          · rw [if_pos hwe] at n1 ⊢; exact ⟨n1, Nat.le_refl _⟩
          · rw [if_neg hwe] at n1 ⊢
            obtain ⟨g1, g2, _⟩ := want_good n1
            exact ⟨g1, by omega⟩
        refine ⟨hst.1, by show s.i ≤ q1.1.i; omega, by show okK (r.2 :: q1.2) = true; rw [Term.okK_cons, n3, p3]; rfl, plK_cons n4 p4, ?_, by show q1.2.length + 1 = ws.length + 1; omega⟩
        show wts (r.2 :: q1.2) + (ws.length + 1) + 2 * s.i ≤ 2 * q1.1.i
        rw [Term.wts_cons]
        omega
    · unfold levelF at he
      split at he
      · exact iA s r hs he
      · obtain ⟨r1, h1, h2⟩ := Option.bind_eq_some_iff.1 he
        have hrl := LT.2.2.1 _ s r1 hs h1
        intro hb
        have hl := iO k r1.1 r1.2 r hrl h2
        have hb1 : r1.1.bad = false := by
          cases hbb : r1.1.bad
          · rfl
          · have := loop_bad T hbb h2
            rw [this, hbb] at hb
            cases hb
        obtain ⟨n1, n2, n3, n4, n5⟩ := iL _ s r1 hs h1 hb1
        obtain ⟨l1, l2, l3, l4, l5⟩ := hl hb n3 n4
        exact ⟨n1, by omega, l3, l4, by omega⟩
    · unfold loopF at he
      split at he
      · rename_i hc
        obtain ⟨r1, h1, h2⟩ := Option.bind_eq_some_iff.1 he
        have hin := in_mem' hc.2
        have hk6 : (tel T s.i).k ≠ 6 := by
          have := textOf_some T (i := s.i) (in_ne (signs_ne k) hc.2)
          omega
        have hs1 : (⟨s.i + 1, s.bad⟩ : St).i < T.length := hG.row.next T hs hk6
        have hrl := LT.2.2.1 _ _ r1 hs1 h1
        have hop : okT r1.2 = true → PlT T r1.2 → okT a = true → PlT T a → okT (putF (textOf T s.i) a r1.2) = true ∧ PlT T (putF (textOf T s.i) a r1.2) := by
          intro o1 o2 o3 o4
          have hp := plT_head o4
          obtain ⟨z1, z2, z3, z4, z5⟩ := op_ok _ (signs_six k _ hin)
          exact ⟨okT_node (nodeB_of (l := 2) z1 (pl_pos hp) z2 n0 (fitsN z3 rfl) (fitsN z4 rfl) (fitsN z5 rfl)) (ok2 o3 o1), plT_node hp (plK_cons o4 (plK_cons o2 (plK_nil T)))⟩
        have hwp : wt (putF (textOf T s.i) a r1.2) = wt a + wt r1.2 + 1 := by unfold putF; rw [wt_node, wts2]
        intro hb ha hpa
        split at h2
        · injection h2 with h2
          rw [← h2] at hb ⊢
          obtain ⟨n1, n2, n3, n4, n5⟩ := iL _ _ r1 hs1 h1 hb
          obtain ⟨o1, o2⟩ := hop n3 n4 ha hpa
          have n2' : s.i + 1 ≤ r1.1.i := n2
          have n5' : wt r1.2 + 1 + 2 * (s.i + 1) ≤ 2 * r1.1.i := n5
          refine ⟨n1, by show s.i ≤ r1.1.i; omega, o1, o2, ?_⟩
          show wt (putF (textOf T s.i) a r1.2) + 2 * s.i ≤ wt a + 2 * r1.1.i
          omega
        · have hb1 : r1.1.bad = false := by
            cases hbb : r1.1.bad
            · rfl
            · have := loop_bad T hbb h2
              rw [this, hbb] at hb
              cases hb
          obtain ⟨n1, n2, n3, n4, n5⟩ := iL _ _ r1 hs1 h1 hb1
          obtain ⟨o1, o2⟩ := hop n3 n4 ha hpa
          obtain ⟨l1, l2, l3, l4, l5⟩ := iO k r1.1 _ r hrl h2 hb o1 o2
          have n2' : s.i + 1 ≤ r1.1.i := n2
          have n5' : wt r1.2 + 1 + 2 * (s.i + 1) ≤ 2 * r1.1.i := n5
          exact ⟨n1, by omega, l3, l4, by omega⟩
      · injection he with he
        rw [← he]
        exact fun hb ha hp => ⟨hb, Nat.le_refl _, ha, hp, Nat.le_refl _⟩
    · unfold applyF at he
      obtain ⟨r1, h1, h2⟩ := Option.bind_eq_some_iff.1 he
      have hrl := LT.2.2.2.2.2.2 s r1 hs h1
      intro hb
      have hb1 : r1.1.bad = false := by
        cases hbb : r1.1.bad
        · rfl
        · have := aloop_bad T hbb h2
          rw [this, hbb] at hb
          cases hb
      obtain ⟨n1, n2, n3, n4, n5⟩ := iU s r1 hs h1 hb1
      obtain ⟨l1, l2, l3, l4, l5⟩ := iB r1.1 r1.2 r hrl h2 hb n3 n4
      exact ⟨n1, by omega, l3, l4, by omega⟩
    · unfold aloopF at he
      split at he
      · rename_i hc
        obtain ⟨r1, h1, h2⟩ := Option.bind_eq_some_iff.1 he
        have hrl := LT.2.2.2.2.2.2 s r1 hs h1
        have hwp : wt (node 10 a.h.pl [a, r1.2]) = wt a + wt r1.2 + 1 := by unfold node; rw [wt_node, wts2]
        intro hb ha hpa
        have hb1 : r1.1.bad = false := by
          cases hbb : r1.1.bad
          · rfl
          · have := aloop_bad T hbb h2
            rw [this, hbb] at hb
            cases hb
        obtain ⟨n1, n2, n3, n4, n5⟩ := iU s r1 hs h1 hb1
        have hp := plT_head hpa
        have o1 : okT (node 10 a.h.pl [a, r1.2]) = true := okT_node (nodeB_of (l := 2) (by decide) (pl_pos hp) (by decide) n0 (fitsN (by decide) rfl) (fitsN (by decide) rfl) (fitsN (by decide) rfl)) (ok2 ha n3)
        have o2 : PlT T (node 10 a.h.pl [a, r1.2]) := plT_node hp (plK_cons hpa (plK_cons n4 (plK_nil T)))
        obtain ⟨l1, l2, l3, l4, l5⟩ := iB r1.1 _ r hrl h2 hb o1 o2
        exact ⟨n1, by omega, l3, l4, by omega⟩
      · injection he with he
        rw [← he]
        exact fun hb ha hp => ⟨hb, Nat.le_refl _, ha, hp, Nat.le_refl _⟩
    · unfold unaryF at he
      split at he
      · rename_i hb; injection he with he; rw [← he]; intro hb'; rw [show ((s, zeroT) : St × Tm).1.bad = s.bad from rfl, hb] at hb'; cases hb'
      rename_i hnb
      have hsb : s.bad = false := by cases h : s.bad; rfl; exact absurd h hnb
      have hbr : ∀ x, textOf T s.i = x → x ≠ ⟨#[]⟩ → (tel T s.i).k ≠ 6 := fun x hx hne => by
        have := textOf_some T (i := s.i) (by rw [hx]; exact hne)
        omega
      split at he
      · rename_i hpn
        have k6 := hbr _ rfl (pre_ne hpn)
        obtain ⟨q, hq, he⟩ := Option.map_eq_some_iff.1 he
        rw [← he]; intro hb
        obtain ⟨n1, n2, n3, n4, n5⟩ := iU ⟨s.i + 1, s.bad⟩ q (hG.row.next T hs k6) hq hb
        have n2' : s.i + 1 ≤ q.1.i := n2
        have n5' : wt q.2 + 1 + 2 * (s.i + 1) ≤ 2 * q.1.i := n5
        refine ⟨hsb, by show s.i ≤ q.1.i; omega, ?_, plT_node ⟨s.i, hs, k6, rfl⟩ (plK_cons n4 (plK_nil T)), ?_⟩
        · generalize preN (textOf T s.i) = m at *
          have hm : m = 0 ∨ m = 1 ∨ m = 2 ∨ m = 3 := by omega
          rcases hm with rfl | rfl | rfl | rfl <;> exact okT_node (nodeB_of (l := 1) (by decide) (pl_pos ⟨s.i, hs, k6, rfl⟩) (by decide) n0 (fitsN (by decide) rfl) (fitsN (by decide) rfl) (fitsN (by decide) rfl)) (ok1 n3)
        · show wt (.node _ [q.2]) + 1 + 2 * s.i ≤ 2 * q.1.i
          rw [wt_node, wts1]; omega
      split at he
      · rename_i hw
        have k6 := pos_of_on hG hs (by simp [wordsL]) hw
        have l1 : s.i + 1 < T.length := hG.row.next T hs k6
        obtain ⟨q, hq, he⟩ := Option.map_eq_some_iff.1 he
        rw [← he]; intro hb
        obtain ⟨n1, n2, n3, n4, n5⟩ := iU _ q (G (s := ⟨s.i + 1, s.bad⟩) (k := 3) (by decide) l1) hq hb
        obtain ⟨g1, g2, g3, g4⟩ := get_good n1
        have g2' : (getF T ⟨s.i + 1, s.bad⟩ 3).i = s.i + 1 + 1 := g2
        refine ⟨hsb, by show s.i ≤ q.1.i; omega, okT_node (by rw [g4]; exact nodeB_of (l := 1) (by decide) (pl_pos ⟨s.i, hs, k6, rfl⟩) (by decide) n0 (fitsN (by decide) rfl) (fitsN (by decide) rfl) (fitsY (by decide) (good_exn hG l1 g3))) (ok1 n3), plT_node ⟨s.i, hs, k6, rfl⟩ (plK_cons n4 (plK_nil T)), ?_⟩
        show wt (.node _ [q.2]) + 1 + 2 * s.i ≤ 2 * q.1.i
        rw [wt_node, wts1]; omega
      split at he
      · rename_i hk1
        injection he with he
        rw [← he]; intro hb
        have k6 : (tel T s.i).k ≠ 6 := by omega
        refine ⟨hsb, by show s.i ≤ s.i + 1; omega, okT_node (nodeB_of (l := 0) (by decide) (pl_pos ⟨s.i, hs, k6, rfl⟩) (by decide) ⟨(num_range _).1, (num_range _).2, fun h => absurd rfl h⟩ (fitsN (by decide) rfl) (fitsN (by decide) rfl) (fitsN (by decide) rfl)) Term.okK_nil, plT_node ⟨s.i, hs, k6, rfl⟩ (plK_nil T), ?_⟩
        show wt (.node _ []) + 1 + 2 * s.i ≤ 2 * (s.i + 1)
        rw [wt_node, Term.wts_nil]; omega
      split at he
      · rename_i hk2
        injection he with he
        rw [← he]; intro hb
        have k6 : (tel T s.i).k ≠ 6 := by omega
        refine ⟨hsb, by show s.i ≤ s.i + 1; omega, okT_node (nodeB_of (l := 0) (by decide) (pl_pos ⟨s.i, hs, k6, rfl⟩) (by decide) n0 (fitsY (by decide) (good_name hG hs hk2)) (fitsN (by decide) rfl) (fitsN (by decide) rfl)) Term.okK_nil, plT_node ⟨s.i, hs, k6, rfl⟩ (plK_nil T), ?_⟩
        show wt (.node _ []) + 1 + 2 * s.i ≤ 2 * (s.i + 1)
        rw [wt_node, Term.wts_nil]; omega
      · obtain ⟨r1, h1, he⟩ := Option.bind_eq_some_iff.1 he
        have l1 := W (s := s) (w := wOpen) (by simp [wordsL]) hs
        have l2 := LT.1 _ r1 l1 h1
        split at he
        · injection he with he
          rw [← he]; intro hb
          obtain ⟨b1, b2, b3⟩ := want_good hb
          obtain ⟨n1, n2, n3, n4, n5⟩ := iE _ r1 l1 h1 b1
          obtain ⟨a1, a2, a3⟩ := want_good n1
          refine ⟨a1, by show s.i ≤ (wantF T r1.1 wShut).i; omega, n3, n4, ?_⟩
          show wt r1.2 + 1 + 2 * s.i ≤ 2 * (wantF T r1.1 wShut).i
          omega
        · rename_i hnc
          obtain ⟨q, hq, he⟩ := Option.map_eq_some_iff.1 he
          rw [← he]; intro hb
          obtain ⟨b1, b2, b3⟩ := want_good hb
          have hc : textOf T r1.1.i = wComma := Classical.not_not.1 fun h => hnc (.inr h)
          have l3 : r1.1.i + 1 < T.length := hG.row.next T l2 (pos_of_on hG l2 (by simp [wordsL]) hc)
          obtain ⟨m1, m2, m3, m4, m5⟩ := iE ⟨r1.1.i + 1, r1.1.bad⟩ q l3 hq b1
          obtain ⟨n1, n2, n3, n4, n5⟩ := iE _ r1 l1 h1 m1
          obtain ⟨a1, a2, a3⟩ := want_good n1
          have k6 := pos_of_on hG hs (by simp [wordsL]) a3
          have m2' : r1.1.i + 1 ≤ q.1.i := m2
          have m5' : wt q.2 + 1 + 2 * (r1.1.i + 1) ≤ 2 * q.1.i := m5
          refine ⟨a1, by show s.i ≤ (wantF T q.1 wShut).i; omega, okT_node (nodeB_of (l := 2) (by decide) (pl_pos ⟨s.i, hs, k6, rfl⟩) (by decide) n0 (fitsN (by decide) rfl) (fitsN (by decide) rfl) (fitsN (by decide) rfl)) (ok2 n3 m3), plT_node ⟨s.i, hs, k6, rfl⟩ (plK_cons n4 (plK_cons m4 (plK_nil T))), ?_⟩
          show wt (.node _ [r1.2, q.2]) + 1 + 2 * s.i ≤ 2 * (wantF T q.1 wShut).i
          rw [wt_node, wts2]; omega
end Parse
end Go.Proofs.YtlmaphaipcfppaaGreatDoor
