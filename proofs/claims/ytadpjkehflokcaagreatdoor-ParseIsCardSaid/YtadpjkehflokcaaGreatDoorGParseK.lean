/-The document's reading of tokens: what comes out with some fuel comes out with more; what comes out with enough of it. A term that comes of tokens may be, and each of its nodes begins at one of them. Tokens of a text within another one's: what is read of them is the same, but for places. Two texts in brackets, a sign between: what reading them comes to. Two texts in brackets, a sign between: what reading them comes to, whole. -/
import Derived.Test.YtadpjkehflokcaaGreatDoorGParseA
import Derived.Test.YtadpjkehflokcaaGreatDoorGTermA
import Derived.Test.YtadpjkehflokcaaGreatDoorGTermB
import Derived.Test.YtadpjkehflokcaaGreatDoorGParseJ
import Derived.Test.YtadpjkehflokcaaGreatDoorGParseH
namespace Go.Proofs.YtadpjkehflokcaaGreatDoor
open Go.RowKit
set_option linter.unusedVariables false
namespace Parse
open Token (Tok tel)
open Term (Tm Hd)

/-- What the one comes to, the other does. -/
def Le {α : Type} (o o' : Option α) : Prop := ∀ x, o = some x → o' = some x
theorem Le.refl {α : Type} (o : Option α) : Le o o := fun _ h => h
theorem Le.none {α : Type} (o : Option α) : Le .none o := fun _ h => by cases h
theorem Le.ite {α : Type} {c : Prop} [Decidable c] {a a' b b' : Option α} (h1 : Le a a') (h2 : Le b b') : Le (if c then a else b) (if c then a' else b') := by
  by_cases hc : c
  · rw [if_pos hc, if_pos hc]; exact h1
  · rw [if_neg hc, if_neg hc]; exact h2
theorem Le.map {α β : Type} {o o' : Option α} (f : α → β) (h : Le o o') : Le (o.map f) (o'.map f) := fun x hx => by
  obtain ⟨y, hy, e⟩ := Option.map_eq_some_iff.1 hx
  rw [h y hy]; exact congrArg some e
theorem Le.bind {α β : Type} {o o' : Option α} {f f' : α → Option β} (h : Le o o') (hf : ∀ y, Le (f y) (f' y)) : Le (o.bind f) (o'.bind f') := fun x hx => by
  obtain ⟨y, hy, e⟩ := Option.bind_eq_some_iff.1 hx
  rw [h y hy]; exact hf y x e
section
variable (ts : List Tok)
theorem mono1 : ∀ n : Nat,
    (∀ s, Le (exprF ts n s) (exprF ts (n + 1) s)) ∧
    (∀ ws s, Le (partsF ts n ws s) (partsF ts (n + 1) ws s)) ∧
    (∀ k s, Le (levelF ts n k s) (levelF ts (n + 1) k s)) ∧
    (∀ k s a, Le (loopF ts n k s a) (loopF ts (n + 1) k s a)) ∧
    (∀ s, Le (applyF ts n s) (applyF ts (n + 1) s)) ∧
    (∀ s a, Le (aloopF ts n s a) (aloopF ts (n + 1) s a)) ∧
    (∀ s, Le (unaryF ts n s) (unaryF ts (n + 1) s)) := by
  intro n
  induction n with
  | zero =>
    refine ⟨fun s x h => ?_, fun ws s x h => ?_, fun k s x h => ?_, fun k s a x h => ?_, fun s x h => ?_, fun s a x h => ?_, fun s x h => ?_⟩
    · simp [exprF] at h
    · simp [partsF] at h
    · simp [levelF] at h
    · simp [loopF] at h
    · simp [applyF] at h
    · simp [aloopF] at h
    · simp [unaryF] at h
  | succ n ih =>
    obtain ⟨iE, iP, iL, iO, iA, iB, iU⟩ := ih
    refine ⟨fun s => ?_, fun ws s => ?_, fun k s => ?_, fun k s a => ?_, fun s => ?_, fun s a => ?_, fun s => ?_⟩
    · unfold exprF
      exact Le.ite (Le.refl _) (Le.ite ((iP _ _).map _) (Le.ite ((iP _ _).map _) (Le.ite ((iP _ _).map _) (Le.ite ((iP _ _).map _) (Le.ite ((iP _ _).bind fun y => (iP _ _).map _) (iL _ _))))))
    · cases ws with
      | nil => unfold partsF; exact Le.refl _
      | cons w ws => unfold partsF; exact (iE _).bind fun y => (iP _ _).map _
    · unfold levelF
      exact Le.ite (iA _) ((iL _ _).bind fun y => iO _ _ _)
    · unfold loopF
      exact Le.ite ((iL _ _).bind fun y => Le.ite (Le.refl _) (iO _ _ _)) (Le.refl _)
    · unfold applyF
      exact (iU _).bind fun y => iB _ _
    · unfold aloopF
      exact Le.ite ((iU _).bind fun y => iB _ _) (Le.refl _)
    · unfold unaryF
      exact Le.ite (Le.refl _) (Le.ite ((iU _).map _) (Le.ite ((iU _).map _) (Le.ite (Le.refl _) (Le.ite (Le.refl _) ((iE _).bind fun y => Le.ite (Le.refl _) ((iE _).map _))))))
end
theorem grow {α : Type} (f : Nat → Option α) (h : ∀ n, Le (f n) (f (n + 1))) {n m : Nat} (hm : n ≤ m) : Le (f n) (f m) := by
  induction hm with
  | refl => exact Le.refl _
  | step _ ih => exact fun x hx => h _ x (ih x hx)
section
variable {ts : List Tok}
theorem expr_grow {n m : Nat} (hm : n ≤ m) {s : St} {r : St × Tm} (h : exprF ts n s = some r) : exprF ts m s = some r := grow (fun n => exprF ts n s) (fun n => (mono1 ts n).1 s) hm r h
theorem parts_grow {n m : Nat} (hm : n ≤ m) {ws : List ByteArray} {s : St} {r : St × List Tm} (h : partsF ts n ws s = some r) : partsF ts m ws s = some r := grow (fun n => partsF ts n ws s) (fun n => (mono1 ts n).2.1 ws s) hm r h
theorem level_grow {n m : Nat} (hm : n ≤ m) {k : Nat} {s : St} {r : St × Tm} (h : levelF ts n k s = some r) : levelF ts m k s = some r := grow (fun n => levelF ts n k s) (fun n => (mono1 ts n).2.2.1 k s) hm r h
theorem loop_grow {n m : Nat} (hm : n ≤ m) {k : Nat} {s : St} {a : Tm} {r : St × Tm} (h : loopF ts n k s a = some r) : loopF ts m k s a = some r := grow (fun n => loopF ts n k s a) (fun n => (mono1 ts n).2.2.2.1 k s a) hm r h
theorem apply_grow {n m : Nat} (hm : n ≤ m) {s : St} {r : St × Tm} (h : applyF ts n s = some r) : applyF ts m s = some r := grow (fun n => applyF ts n s) (fun n => (mono1 ts n).2.2.2.2.1 s) hm r h
theorem aloop_grow {n m : Nat} (hm : n ≤ m) {s : St} {a : Tm} {r : St × Tm} (h : aloopF ts n s a = some r) : aloopF ts m s a = some r := grow (fun n => aloopF ts n s a) (fun n => (mono1 ts n).2.2.2.2.2.1 s a) hm r h
theorem unary_grow {n m : Nat} (hm : n ≤ m) {s : St} {r : St × Tm} (h : unaryF ts n s = some r) : unaryF ts m s = some r := grow (fun n => unaryF ts n s) (fun n => (mono1 ts n).2.2.2.2.2.2 s) hm r h
end

/-! ### With enough fuel -/
section
variable (T : List Tok)
def EE (i j : Nat) (x : Tm) : Prop := ∃ n, exprF T n ⟨i, false⟩ = some (⟨j, false⟩, x)
def EL (k i j : Nat) (x : Tm) : Prop := ∃ n, levelF T n k ⟨i, false⟩ = some (⟨j, false⟩, x)
def EO (k i : Nat) (a : Tm) (j : Nat) (x : Tm) : Prop := ∃ n, loopF T n k ⟨i, false⟩ a = some (⟨j, false⟩, x)
def EA (i j : Nat) (x : Tm) : Prop := ∃ n, applyF T n ⟨i, false⟩ = some (⟨j, false⟩, x)
def EB (i : Nat) (a : Tm) (j : Nat) (x : Tm) : Prop := ∃ n, aloopF T n ⟨i, false⟩ a = some (⟨j, false⟩, x)
def EU (i j : Nat) (x : Tm) : Prop := ∃ n, unaryF T n ⟨i, false⟩ = some (⟨j, false⟩, x)
def EP (ws : List ByteArray) (s : St) (j : Nat) (xs : List Tm) : Prop := ∃ n, partsF T n ws s = some (⟨j, false⟩, xs)
end
section
variable {T : List Tok}
theorem EE.det {i j : Nat} {x : Tm} (h : EE T i j x) {n : Nat} {r : St × Tm} (hr : exprF T n ⟨i, false⟩ = some r) : r = (⟨j, false⟩, x) := by
  obtain ⟨m, hm⟩ := h
  have h1 := expr_grow (Nat.le_max_left m n) hm
  have h2 := expr_grow (Nat.le_max_right m n) hr
  rw [h1] at h2
  injection h2 with h2
  exact h2.symm
/-- A loop that stops. -/
theorem EO.stop {k i : Nat} (a : Tm) (h : inF (signsF k) (textOf T i) = false) : EO T k i a i a := ⟨1, by unfold loopF; rw [if_neg (by rw [h]; simp)]⟩
theorem EB.stop {i : Nat} (a : Tm) (h : startsF T ⟨i, false⟩ = false) : EB T i a i a := ⟨1, by unfold aloopF; rw [if_neg (by rw [h]; simp)]⟩
theorem EB.step {i j l : Nat} {a b x : Tm} (h : startsF T ⟨i, false⟩ = true) (hu : EU T i j b) (hb : EB T j (node 10 a.h.pl [a, b]) l x) : EB T i a l x := by
  obtain ⟨n, hn⟩ := hu
  obtain ⟨m, hm⟩ := hb
  refine ⟨max n m + 1, ?_⟩
  unfold aloopF
  rw [if_pos ⟨rfl, h⟩, unary_grow (Nat.le_max_left n m) hn]
  exact aloop_grow (Nat.le_max_right n m) hm
theorem EA.of {i j l : Nat} {a x : Tm} (hu : EU T i j a) (hb : EB T j a l x) : EA T i l x := by
  obtain ⟨n, hn⟩ := hu
  obtain ⟨m, hm⟩ := hb
  refine ⟨max n m + 1, ?_⟩
  unfold applyF
  rw [unary_grow (Nat.le_max_left n m) hn]
  exact aloop_grow (Nat.le_max_right n m) hm
theorem EL.four {i j : Nat} {x : Tm} (h : EA T i j x) : EL T 4 i j x := by
  obtain ⟨n, hn⟩ := h
  exact ⟨n + 1, by unfold levelF; rw [if_pos rfl]; exact hn⟩
theorem EL.of {k i j l : Nat} {a x : Tm} (hk : k ≠ 4) (h : EL T (k + 1) i j a) (ho : EO T k j a l x) : EL T k i l x := by
  obtain ⟨n, hn⟩ := h
  obtain ⟨m, hm⟩ := ho
  refine ⟨max n m + 1, ?_⟩
  unfold levelF
  rw [if_neg hk, level_grow (Nat.le_max_left n m) hn]
  exact loop_grow (Nat.le_max_right n m) hm
theorem EO.once {k i j : Nat} {a b : Tm} (hk : k < 2) (h : inF (signsF k) (textOf T i) = true) (hl : EL T (k + 1) (i + 1) j b) : EO T k i a j (putF (textOf T i) a b) := by
  obtain ⟨n, hn⟩ := hl
  refine ⟨n + 1, ?_⟩
  unfold loopF
  rw [if_pos ⟨rfl, h⟩, hn]
  exact if_pos hk
theorem EO.step {k i j l : Nat} {a b x : Tm} (hk : ¬ k < 2) (h : inF (signsF k) (textOf T i) = true) (hl : EL T (k + 1) (i + 1) j b) (ho : EO T k j (putF (textOf T i) a b) l x) : EO T k i a l x := by
  obtain ⟨n, hn⟩ := hl
  obtain ⟨m, hm⟩ := ho
  refine ⟨max n m + 1, ?_⟩
  unfold loopF
  rw [if_pos ⟨rfl, h⟩, level_grow (Nat.le_max_left n m) hn]
  exact (if_neg hk).trans (loop_grow (Nat.le_max_right n m) hm)
/-- No word of the loosest part stands there. -/
def NoHead (T : List Tok) (i : Nat) : Prop := textOf T i ≠ wLet ∧ textOf T i ≠ wLetrec ∧ textOf T i ≠ wFn ∧ textOf T i ≠ wIf ∧ textOf T i ≠ wTry
theorem EE.of {i j : Nat} {x : Tm} (hn : NoHead T i) (h : EL T 0 i j x) : EE T i j x := by
  obtain ⟨n, hl⟩ := h
  refine ⟨n + 1, ?_⟩
  unfold exprF
  rw [if_neg (by simp), if_neg hn.1, if_neg hn.2.1, if_neg hn.2.2.1, if_neg hn.2.2.2.1, if_neg hn.2.2.2.2]
  exact hl
/-- Where nothing goes on. -/
def Stops (T : List Tok) (k j : Nat) : Prop := startsF T ⟨j, false⟩ = false ∧ ∀ l, k ≤ l → l < 4 → inF (signsF l) (textOf T j) = false
theorem Stops.more {k l j : Nat} (h : Stops T k j) (hl : k ≤ l) : Stops T l j := ⟨h.1, fun m hm h4 => h.2 m (Nat.le_trans hl hm) h4⟩
/-- What is a unary is all that. -/
theorem EL.climb {i j : Nat} {x : Tm} (hu : EU T i j x) : ∀ d k : Nat, k + d = 4 → Stops T k j → EL T k i j x
  | 0, k, hk, hs => by
    obtain rfl : k = 4 := by omega
    exact EL.four (EA.of hu (EB.stop x hs.1))
  | d + 1, k, hk, hs => EL.of (by omega) (EL.climb hu d (k + 1) (by omega) (hs.more (by omega))) (EO.stop x (hs.2 k (Nat.le_refl _) (by omega)))
/-- From one level up to a looser one. -/
theorem EL.up {i j : Nat} {x : Tm} {k : Nat} (h : EL T k i j x) : ∀ d l : Nat, l + d = k → k ≤ 4 → Stops T l j → EL T l i j x
  | 0, l, hl, _, _ => by
    obtain rfl : l = k := by omega
    exact h
  | d + 1, l, hl, h4, hs => EL.of (by omega) (EL.up h d (l + 1) (by omega) h4 (hs.more (by omega))) (EO.stop x (hs.2 l (Nat.le_refl _) (by omega)))
/-- Brackets round what stands for the loosest part. -/
theorem EU.brackets {i j : Nat} {x : Tm} (ho : textOf T i = wOpen) (hk : (tel T i).k = 5) (h : EE T (i + 1) j x) (hc : textOf T j = wShut) : EU T i (j + 1) x := by
  obtain ⟨n, hn⟩ := h
  refine ⟨n + 1, ?_⟩
  unfold unaryF
  have e1 : wantF T ⟨i, false⟩ wOpen = ⟨i + 1, false⟩ := by unfold wantF; rw [if_neg (by rw [ho]; simp)]
  have e2 : wantF T ⟨j, false⟩ wShut = ⟨j + 1, false⟩ := by unfold wantF; rw [if_neg (by rw [hc]; simp)]
  simp only [ho, hk, e1]
  rw [if_neg (by simp), if_neg (by decide +kernel), if_neg (by decide +kernel), if_neg (by decide), if_neg (by decide), hn]
  show (if _ then _ else _) = _
  rw [if_pos (.inr (by show textOf T j ≠ wComma; rw [hc]; decide +kernel))]
  show some (wantF T ⟨j, false⟩ wShut, x) = _
  rw [e2]
end
end Parse
end Go.Proofs.YtadpjkehflokcaaGreatDoor
namespace Go.Proofs.YtadpjkehflokcaaGreatDoor
open Go.RowKit
set_option linter.unusedVariables false
namespace Parse
open Token (Tok tel)
open Term (Tm Hd wt wts okT okK flatT flatK nodeB kidsN fitsB nameF argF exnF opOk nOk)
open Words (nameB exnB)

/-- Each node begins at a token ahead of the end. -/
def Pl (T : List Tok) (a : Int) : Prop := ∃ j, j < T.length ∧ (tel T j).k ≠ 6 ∧ a = plA T j
def PlT (T : List Tok) (t : Tm) : Prop := ∀ u ∈ flatT t, Pl T u.h.pl
def PlK (T : List Tok) (ts : List Tm) : Prop := ∀ u ∈ flatK ts, Pl T u.h.pl
theorem plK_nil (T : List Tok) : PlK T [] := fun u hu => by unfold flatK at hu; cases hu
theorem plK_cons {T : List Tok} {t : Tm} {ts : List Tm} (h : PlT T t) (k : PlK T ts) : PlK T (t :: ts) := fun u hu => by
  unfold flatK at hu
  rcases List.mem_append.1 hu with hu | hu
  · exact h u hu
  · exact k u hu
theorem plT_node {T : List Tok} {h : Hd} {ks : List Tm} (h0 : Pl T h.pl) (k : PlK T ks) : PlT T (.node h ks) := fun u hu => by
  unfold flatT at hu
  rcases List.mem_cons.1 hu with rfl | hu
  · exact h0
  · exact k u hu
theorem plT_head {T : List Tok} {t : Tm} (h : PlT T t) : Pl T t.h.pl := h t (by rw [Term.flatT_eq]; exact List.mem_cons_self)
theorem pl_pos {T : List Tok} {a : Int} (h : Pl T a) : 0 ≤ a := by obtain ⟨j, _, _, rfl⟩ := h; unfold plA; omega

theorem okT_node {h : Hd} {ks : List Tm} (h0 : nodeB h ks.length = true) (k : okK ks = true) : okT (.node h ks) = true := by unfold okT; rw [h0, k]; rfl
theorem ok1 {t : Tm} (h : okT t = true) : okK [t] = true := by rw [Term.okK_cons, h, Term.okK_nil]; rfl
theorem ok2 {t u : Tm} (h : okT t = true) (k : okT u = true) : okK [t, u] = true := by rw [Term.okK_cons, h, ok1 k]; rfl
theorem ok3 {t u v : Tm} (h : okT t = true) (k : okT u = true) (l : okT v = true) : okK [t, u, v] = true := by rw [Term.okK_cons, h, ok2 k l]; rfl
theorem okK_append : ∀ ts us : List Tm, okK ts = true → okK us = true → okK (ts ++ us) = true
  | [], us, _, h => h
  | t :: ts, us, h, k => by
    rw [Term.okK_cons, Bool.and_eq_true] at h
    rw [List.cons_append, Term.okK_cons, h.1, okK_append ts us h.2 k]; rfl
theorem plK_append {T : List Tok} : ∀ ts us : List Tm, PlK T ts → PlK T us → PlK T (ts ++ us)
  | [], us, _, h => h
  | t :: ts, us, h, k => by
    rw [List.cons_append]
    refine plK_cons (fun u hu => h u (by unfold flatK; exact List.mem_append_left _ hu)) (plK_append ts us (fun u hu => h u (by unfold flatK; exact List.mem_append_right _ hu)) k)
theorem nodeB_of {k op pl n : Int} {nm ar ex : ByteArray} {l : Nat} (h1 : kidsN k = l) (h2 : 0 ≤ pl) (h3 : if k = 9 then 1 ≤ op ∧ op ≤ 5 else op = 0) (h4 : 0 ≤ n ∧ n ≤ 2147483647 ∧ (k ≠ 1 → n = 0)) (h5 : fitsB (nameF k) nm (nameB nm) = true) (h6 : fitsB (argF k) ar (nameB ar) = true) (h7 : fitsB (exnF k) ex (exnB ex) = true) : nodeB ⟨k, op, pl, n, nm, ar, ex⟩ l = true := by
  unfold nodeB
  have hd : kidsN k = l ∧ 0 ≤ pl ∧ opOk ⟨k, op, pl, n, nm, ar, ex⟩ ∧ nOk ⟨k, op, pl, n, nm, ar, ex⟩ := ⟨h1, h2, h3, h4⟩
  rw [decide_eq_true hd, h5, h6, h7]; rfl
theorem fits_no (s : ByteArray) (b : Bool) (h : s = ⟨#[]⟩) : fitsB false s b = true := by subst h; rfl
theorem fits_yes {s : ByteArray} (b : Bool) (h : b = true) : fitsB true s b = true := by subst h; rfl

section
variable {T : List Tok} (hG : Good T)
theorem Good.row_next {T : List Tok} (hG : Good T) {i : Nat} (hi : i < T.length) (hk : (tel T i).k ≠ 6) : Pl T (plA T i) := ⟨i, hi, hk, rfl⟩
/-- What is known where a part was read. -/
def NodeOk (T : List Tok) (s : St) (r : St × Tm) : Prop := r.1.bad = false → s.bad = false ∧ s.i ≤ r.1.i ∧ okT r.2 = true ∧ PlT T r.2 ∧ wt r.2 + 1 + 2 * s.i ≤ 2 * r.1.i
def PartsOk (T : List Tok) (s : St) (ws : List ByteArray) (q : St × List Tm) : Prop := q.1.bad = false → s.bad = false ∧ s.i ≤ q.1.i ∧ okK q.2 = true ∧ PlK T q.2 ∧ wts q.2 + ws.length + 2 * s.i ≤ 2 * q.1.i ∧ q.2.length = ws.length
def LoopOk (T : List Tok) (s : St) (a : Tm) (r : St × Tm) : Prop := r.1.bad = false → okT a = true → PlT T a → s.bad = false ∧ s.i ≤ r.1.i ∧ okT r.2 = true ∧ PlT T r.2 ∧ wt r.2 + 2 * s.i ≤ wt a + 2 * r.1.i
theorem want_good {ts : List Tok} {s : St} {w : ByteArray} (h : (wantF ts s w).bad = false) : s.bad = false ∧ (wantF ts s w).i = s.i + 1 ∧ textOf ts s.i = w := by
  unfold wantF at h ⊢
  split
  · rename_i hc; rw [if_pos hc] at h; cases h
  · rename_i hc
    refine ⟨by cases hb : s.bad; rfl; exact absurd (.inl hb) hc, rfl, Classical.not_not.1 fun e => hc (.inr e)⟩
theorem get_good {ts : List Tok} {s : St} {k : Int} (h : (getF ts s k).bad = false) : s.bad = false ∧ (getF ts s k).i = s.i + 1 ∧ (tel ts s.i).k = k ∧ getS ts s k = (tel ts s.i).s := by
  unfold getF at h ⊢
  unfold getS
  split
  · rename_i hc; rw [if_pos hc] at h; cases h
  · rename_i hc
    refine ⟨by cases hb : s.bad; rfl; exact absurd (.inl hb) hc, rfl, Classical.not_not.1 fun e => hc (.inr e), rfl⟩
end
theorem good_name {T : List Tok} (hG : Good T) {i : Nat} (hi : i < T.length) (h : (tel T i).k = 2) : nameB (tel T i).s = true := (hG.good i hi (by omega)).name h
theorem good_exn {T : List Tok} (hG : Good T) {i : Nat} (hi : i < T.length) (h : (tel T i).k = 3) : exnB (tel T i).s = true := (hG.good i hi (by omega)).exn h
theorem num_range (l : List UInt8) : 0 ≤ Words.numV l ∧ Words.numV l ≤ 2147483647 := by
  unfold Words.numV
  split
  · rename_i h
    unfold Words.numB at h
    simp only [Bool.and_eq_true, decide_eq_true_eq] at h
    have := h.2
    omega
  · omega
theorem wt_node (h : Hd) (ks : List Tm) : wt (.node h ks) = wts ks + 1 := by rw [Term.wt_ks]; rfl
theorem wts1 (t : Tm) : wts [t] = wt t := by rw [Term.wts_cons, Term.wts_nil]; omega
theorem wts2 (t u : Tm) : wts [t, u] = wt t + wt u := by rw [Term.wts_cons, wts1]
theorem pos_of_on {ts : List Tok} (hG : Good ts) {i : Nat} {w : ByteArray} (hi : i < ts.length) (hw : w ∈ wordsL) (h : textOf ts i = w) : (tel ts i).k ≠ 6 := by
  have := textOf_some ts (i := i) (by rw [h]; exact (words_apart w hw).2.2.2)
  omega
theorem in_mem' {l : List ByteArray} {x : ByteArray} (h : inF l x = true) : x ∈ l := by
  unfold inF at h
  obtain ⟨y, hy, e⟩ := List.any_eq_true.1 h
  rw [← of_decide_eq_true e]; exact hy
theorem signs_six (k : Nat) : ∀ x ∈ signsF k, x ∈ [wPut, wLess, wIs, wAdd, wSub, wMul] := by
  intro x hx
  unfold signsF at hx
  repeat' split at hx
  all_goals (simp at hx; try rcases hx with rfl | rfl)
  all_goals (try subst hx)
  all_goals simp
theorem op_ok : ∀ x ∈ [wPut, wLess, wIs, wAdd, wSub, wMul], kidsN (opK x) = 2 ∧ (if opK x = 9 then 1 ≤ opO x ∧ opO x ≤ 5 else opO x = 0) ∧ nameF (opK x) = false ∧ argF (opK x) = false ∧ exnF (opK x) = false := by decide +kernel
theorem fitsN {b : Bool} {s : ByteArray} {o : Bool} (h : b = false) (hs : s = ⟨#[]⟩) : fitsB b s o = true := by subst h; exact fits_no s o hs
theorem fitsY {b : Bool} {s : ByteArray} {o : Bool} (h : b = true) (ho : o = true) : fitsB b s o = true := by subst h; exact fits_yes o ho
theorem n0 {k : Int} : (0 : Int) ≤ 0 ∧ (0 : Int) ≤ 2147483647 ∧ (k ≠ 1 → (0 : Int) = 0) := ⟨Int.le_refl _, by omega, fun _ => rfl⟩
/-- Where nothing was thrown, what a part read may be. -/
theorem nodes_all {T : List Tok} (hG : Good T) : ∀ n : Nat,
    (∀ s r, s.i < T.length → exprF T n s = some r → NodeOk T s r) ∧ (∀ ws s q, s.i < T.length → (∀ w ∈ ws, w = e0 ∨ w ∈ wordsL) → partsF T n ws s = some q → PartsOk T s ws q) ∧
    (∀ k s r, s.i < T.length → levelF T n k s = some r → NodeOk T s r) ∧ (∀ k s a r, s.i < T.length → loopF T n k s a = some r → LoopOk T s a r) ∧
    (∀ s r, s.i < T.length → applyF T n s = some r → NodeOk T s r) ∧ (∀ s a r, s.i < T.length → aloopF T n s a = some r → LoopOk T s a r) ∧
    (∀ s r, s.i < T.length → unaryF T n s = some r → NodeOk T s r) := by
  intro n
  induction n with
  | zero => refine ⟨?_, ?_, ?_, ?_, ?_, ?_, ?_⟩ <;> (intros; simp_all [exprF, partsF, levelF, loopF, applyF, aloopF, unaryF])
  | succ n ih =>
    obtain ⟨iE, iP, iL, iO, iA, iB, iU⟩ := ih
    have LT := lt_all T hG.row n
    have W : ∀ {s : St} {w : ByteArray}, w ∈ wordsL → s.i < T.length → (wantF T s w).i < T.length := fun hw hs => want_lt T hG.row (words_apart _ hw).2.2.2 hs
    have G : ∀ {s : St} {k : Int}, k ≠ 6 → s.i < T.length → (getF T s k).i < T.length := fun hk hs => get_lt T hG.row hk hs
    refine ⟨fun s r hs he => ?_, fun ws s q hs hws he => ?_, fun k s r hs he => ?_, fun k s a r hs he => ?_, fun s r hs he => ?_, fun s a r hs he => ?_, fun s r hs he => ?_⟩
    · unfold exprF at he
      split at he
      · rename_i hb; injection he with he; rw [← he]; intro hb'; rw [show ((s, zeroT) : St × Tm).1.bad = s.bad from rfl, hb] at hb'; cases hb'
      split at he
      · obtain ⟨q, hq, he⟩ := Option.map_eq_some_iff.1 he
        rw [← he]; intro hb
        have l1 := W (s := s) (w := wLet) (by simp [wordsL]) hs
        obtain ⟨p1, p2, p3, p4, p5, p6⟩ := iP [wIs, wIn] _ q (G (by decide) l1) (fun w hw => by simp at hw; rcases hw with rfl | rfl <;> first | exact .inl rfl | (exact .inr (by simp [wordsL]))) hq hb
        obtain ⟨g1, g2, g3, g4⟩ := get_good p1
        obtain ⟨a1, a2, a3⟩ := want_good g1
        have k6 := pos_of_on hG hs (by simp [wordsL]) a3
        have p6' : q.2.length = 2 := p6
        have p5' : wts q.2 + 2 + 2 * (getF T (wantF T s wLet) 2).i ≤ 2 * q.1.i := p5
        refine ⟨a1, by show s.i ≤ q.1.i; omega, okT_node (by rw [p6', g4]; exact (nodeB_of (k := 12) (l := 2) (by decide) (pl_pos ⟨s.i, hs, k6, rfl⟩) (by decide) n0 (fitsY (by decide) (good_name hG l1 g3)) (fitsN (by decide) rfl) (fitsN (by decide) rfl))) p3, plT_node ⟨s.i, hs, k6, rfl⟩ p4, ?_⟩
        show wt (.node _ q.2) + 1 + 2 * s.i ≤ 2 * q.1.i
        rw [wt_node]; omega
      split at he
      · obtain ⟨q, hq, he⟩ := Option.map_eq_some_iff.1 he
        rw [← he]; intro hb
        have l1 := W (s := s) (w := wLetrec) (by simp [wordsL]) hs
        have l2 := G (s := wantF T s wLetrec) (k := 2) (by decide) l1
        obtain ⟨p1, p2, p3, p4, p5, p6⟩ := iP [wIs, wIn] _ q (G (by decide) l2) (fun w hw => by simp at hw; rcases hw with rfl | rfl <;> first | exact .inl rfl | (exact .inr (by simp [wordsL]))) hq hb
        obtain ⟨f1, f2, f3, f4⟩ := get_good p1
        obtain ⟨g1, g2, g3, g4⟩ := get_good f1
        obtain ⟨a1, a2, a3⟩ := want_good g1
        have k6 := pos_of_on hG hs (by simp [wordsL]) a3
        have p6' : q.2.length = 2 := p6
        have p5' : wts q.2 + 2 + 2 * (getF T (getF T (wantF T s wLetrec) 2) 2).i ≤ 2 * q.1.i := p5
        refine ⟨a1, by show s.i ≤ q.1.i; omega, okT_node (by rw [p6', g4, f4]; exact (nodeB_of (k := 13) (l := 2) (by decide) (pl_pos ⟨s.i, hs, k6, rfl⟩) (by decide) n0 (fitsY (by decide) (good_name hG l1 g3)) (fitsY (by decide) (good_name hG l2 f3)) (fitsN (by decide) rfl))) p3, plT_node ⟨s.i, hs, k6, rfl⟩ p4, ?_⟩
        show wt (.node _ q.2) + 1 + 2 * s.i ≤ 2 * q.1.i
        rw [wt_node]; omega
      split at he
      · obtain ⟨q, hq, he⟩ := Option.map_eq_some_iff.1 he
        rw [← he]; intro hb
        have l1 := W (s := s) (w := wFn) (by simp [wordsL]) hs
        obtain ⟨p1, p2, p3, p4, p5, p6⟩ := iP [wArrow] _ q (G (by decide) l1) (fun w hw => by simp at hw; subst hw; first | exact .inl rfl | (exact .inr (by simp [wordsL]))) hq hb
        obtain ⟨g1, g2, g3, g4⟩ := get_good p1
        obtain ⟨a1, a2, a3⟩ := want_good g1
        have k6 := pos_of_on hG hs (by simp [wordsL]) a3
        have p6' : q.2.length = 1 := p6
        have p5' : wts q.2 + 1 + 2 * (getF T (wantF T s wFn) 2).i ≤ 2 * q.1.i := p5
        refine ⟨a1, by show s.i ≤ q.1.i; omega, okT_node (by rw [p6', g4]; exact (nodeB_of (k := 11) (l := 1) (by decide) (pl_pos ⟨s.i, hs, k6, rfl⟩) (by decide) n0 (fitsN (by decide) rfl) (fitsY (by decide) (good_name hG l1 g3)) (fitsN (by decide) rfl))) p3, plT_node ⟨s.i, hs, k6, rfl⟩ p4, ?_⟩
        show wt (.node _ q.2) + 1 + 2 * s.i ≤ 2 * q.1.i
        rw [wt_node]; omega
      split at he
      · obtain ⟨q, hq, he⟩ := Option.map_eq_some_iff.1 he
        rw [← he]; intro hb
        have l1 := W (s := s) (w := wIf) (by simp [wordsL]) hs
        obtain ⟨p1, p2, p3, p4, p5, p6⟩ := iP [e0, wThen, wElse] _ q l1 (fun w hw => by simp at hw; rcases hw with rfl | rfl | rfl <;> first | exact .inl rfl | (exact .inr (by simp [wordsL]))) hq hb
        obtain ⟨a1, a2, a3⟩ := want_good p1
        have k6 := pos_of_on hG hs (by simp [wordsL]) a3
        have p6' : q.2.length = 3 := p6
        have p5' : wts q.2 + 3 + 2 * (wantF T s wIf).i ≤ 2 * q.1.i := p5
        refine ⟨a1, by show s.i ≤ q.1.i; omega, okT_node (by rw [p6']; exact (nodeB_of (k := 14) (l := 3) (by decide) (pl_pos ⟨s.i, hs, k6, rfl⟩) (by decide) n0 (fitsN (by decide) rfl) (fitsN (by decide) rfl) (fitsN (by decide) rfl))) p3, plT_node ⟨s.i, hs, k6, rfl⟩ p4, ?_⟩
        show wt (.node _ q.2) + 1 + 2 * s.i ≤ 2 * q.1.i
        rw [wt_node]; omega
      split at he
      · obtain ⟨q, hq, he⟩ := Option.bind_eq_some_iff.1 he
        obtain ⟨q2, hq2, he⟩ := Option.map_eq_some_iff.1 he
        rw [← he]; intro hb
        have l1 := W (s := s) (w := wTry) (by simp [wordsL]) hs
        have l2 := LT.2.1 _ _ q l1 hq
        have l3 := W (s := q.1) (w := wWith) (by simp [wordsL]) l2
        have l4 := G (s := wantF T q.1 wWith) (k := 3) (by decide) l3
        obtain ⟨p1, p2, p3, p4, p5, p6⟩ := iP [wArrow] _ q2 (G (by decide) l4) (fun w hw => by simp at hw; subst hw; first | exact .inl rfl | (exact .inr (by simp [wordsL]))) hq2 hb
        obtain ⟨f1, f2, f3, f4⟩ := get_good p1
        obtain ⟨g1, g2, g3, g4⟩ := get_good f1
        obtain ⟨b1, b2, b3⟩ := want_good g1
        obtain ⟨c1, c2, c3, c4, c5, c6⟩ := iP [e0] _ q l1 (fun w hw => by simp at hw; subst hw; first | exact .inl rfl | (exact .inr (by simp [wordsL]))) hq b1
        obtain ⟨a1, a2, a3⟩ := want_good c1
        have k6 := pos_of_on hG hs (by simp [wordsL]) a3
        have p6' : q2.2.length = 1 := p6
        have c6' : q.2.length = 1 := c6
        have p5' : wts q2.2 + 1 + 2 * (getF T (getF T (wantF T q.1 wWith) 3) 2).i ≤ 2 * q2.1.i := p5
        have c5' : wts q.2 + 1 + 2 * (wantF T s wTry).i ≤ 2 * q.1.i := c5
        refine ⟨a1, by show s.i ≤ q2.1.i; omega, okT_node (by rw [List.length_append, p6', c6', g4, f4]; exact (nodeB_of (k := 16) (l := 2) (by decide) (pl_pos ⟨s.i, hs, k6, rfl⟩) (by decide) n0 (fitsN (by decide) rfl) (fitsY (by decide) (good_name hG l4 f3)) (fitsY (by decide) (good_exn hG l3 g3)))) (okK_append _ _ c3 p3), plT_node ⟨s.i, hs, k6, rfl⟩ (plK_append _ _ c4 p4), ?_⟩
        show wt (.node _ (q.2 ++ q2.2)) + 1 + 2 * s.i ≤ 2 * q2.1.i
        rw [wt_node, Term.wts_append]; omega
      · exact iL 0 s r hs he
    · cases ws with
      | nil =>
        unfold partsF at he
        injection he with he
        rw [← he]
        exact fun hb => ⟨hb, Nat.le_refl _, Term.okK_nil, plK_nil T, by show wts [] + 0 + 2 * s.i ≤ 2 * s.i; rw [Term.wts_nil]; omega, rfl⟩
      | cons w ws =>
        unfold partsF at he
        obtain ⟨r, hr, he⟩ := Option.bind_eq_some_iff.1 he
        obtain ⟨q1, hq, he⟩ := Option.map_eq_some_iff.1 he
        have hw := hws w List.mem_cons_self
        have hs1 : (if w = e0 then s else wantF T s w).i < T.length := by
          split
          · exact hs
          · rename_i hne; exact W (hw.resolve_left hne) hs
        have hrl := LT.1 _ r hs1 hr
        have hN := iE _ r hs1 hr
        have hP := iP ws r.1 q1 hrl (fun x hx => hws x (List.mem_cons_of_mem _ hx)) hq
        rw [← he]
        intro hb
        obtain ⟨p1, p2, p3, p4, p5, p6⟩ := hP hb
        obtain ⟨n1, n2, n3, n4, n5⟩ := hN p1
        have hst : s.bad = false ∧ s.i ≤ (if w = e0 then s else wantF T s w).i := by
          by_cases hwe : w = e0
          · rw [if_pos hwe] at n1 ⊢; exact ⟨n1, Nat.le_refl _⟩
          · rw [if_neg hwe] at n1 ⊢
            obtain ⟨g1, g2, _⟩ := want_good n1
            exact ⟨g1, by omega⟩
        refine ⟨hst.1, by show s.i ≤ q1.1.i; omega, by show okK (r.2 :: q1.2) = true; rw [Term.okK_cons, n3, p3]; rfl, plK_cons n4 p4, ?_, by show q1.2.length + 1 = ws.length + 1; omega⟩
        show wts (r.2 :: q1.2) + (ws.length + 1) + 2 * s.i ≤ 2 * q1.1.i
        rw [Term.wts_cons]
        omega
    · unfold levelF at he
      split at he
      · exact iA s r hs he
      · obtain ⟨r1, h1, h2⟩ := Option.bind_eq_some_iff.1 he
        have hrl := LT.2.2.1 _ s r1 hs h1
        intro hb
        have hl := iO k r1.1 r1.2 r hrl h2
        have hb1 : r1.1.bad = false := by
          cases hbb : r1.1.bad
          · rfl
          · have := loop_bad T hbb h2
            rw [this, hbb] at hb
            cases hb
        obtain ⟨n1, n2, n3, n4, n5⟩ := iL _ s r1 hs h1 hb1
        obtain ⟨l1, l2, l3, l4, l5⟩ := hl hb n3 n4
        exact ⟨n1, by omega, l3, l4, by omega⟩
    · unfold loopF at he
      split at he
      · rename_i hc
        obtain ⟨r1, h1, h2⟩ := Option.bind_eq_some_iff.1 he
        have hin := in_mem' hc.2
        have hk6 : (tel T s.i).k ≠ 6 := by
          have := textOf_some T (i := s.i) (in_ne (signs_ne k) hc.2)
          omega
        have hs1 : (⟨s.i + 1, s.bad⟩ : St).i < T.length := hG.row.next T hs hk6
        have hrl := LT.2.2.1 _ _ r1 hs1 h1
        have hop : okT r1.2 = true → PlT T r1.2 → okT a = true → PlT T a → okT (putF (textOf T s.i) a r1.2) = true ∧ PlT T (putF (textOf T s.i) a r1.2) := by
          intro o1 o2 o3 o4
          have hp := plT_head o4
          obtain ⟨z1, z2, z3, z4, z5⟩ := op_ok _ (signs_six k _ hin)
          exact ⟨okT_node (nodeB_of (l := 2) z1 (pl_pos hp) z2 n0 (fitsN z3 rfl) (fitsN z4 rfl) (fitsN z5 rfl)) (ok2 o3 o1), plT_node hp (plK_cons o4 (plK_cons o2 (plK_nil T)))⟩
        have hwp : wt (putF (textOf T s.i) a r1.2) = wt a + wt r1.2 + 1 := by unfold putF; rw [wt_node, wts2]
        intro hb ha hpa
        split at h2
        · injection h2 with h2
          rw [← h2] at hb ⊢
          obtain ⟨n1, n2, n3, n4, n5⟩ := iL _ _ r1 hs1 h1 hb
          obtain ⟨o1, o2⟩ := hop n3 n4 ha hpa
          have n2' : s.i + 1 ≤ r1.1.i := n2
          have n5' : wt r1.2 + 1 + 2 * (s.i + 1) ≤ 2 * r1.1.i := n5
          refine ⟨n1, by show s.i ≤ r1.1.i; omega, o1, o2, ?_⟩
          show wt (putF (textOf T s.i) a r1.2) + 2 * s.i ≤ wt a + 2 * r1.1.i
          omega
        · have hb1 : r1.1.bad = false := by
            cases hbb : r1.1.bad
            · rfl
            · have := loop_bad T hbb h2
              rw [this, hbb] at hb
              cases hb
          obtain ⟨n1, n2, n3, n4, n5⟩ := iL _ _ r1 hs1 h1 hb1
          obtain ⟨o1, o2⟩ := hop n3 n4 ha hpa
          obtain ⟨l1, l2, l3, l4, l5⟩ := iO k r1.1 _ r hrl h2 hb o1 o2
          have n2' : s.i + 1 ≤ r1.1.i := n2
          have n5' : wt r1.2 + 1 + 2 * (s.i + 1) ≤ 2 * r1.1.i := n5
          exact ⟨n1, by omega, l3, l4, by omega⟩
      · injection he with he
        rw [← he]
        exact fun hb ha hp => ⟨hb, Nat.le_refl _, ha, hp, Nat.le_refl _⟩
    · unfold applyF at he
      obtain ⟨r1, h1, h2⟩ := Option.bind_eq_some_iff.1 he
      have hrl := LT.2.2.2.2.2.2 s r1 hs h1
      intro hb
      have hb1 : r1.1.bad = false := by
        cases hbb : r1.1.bad
        · rfl
        · have := aloop_bad T hbb h2
          rw [this, hbb] at hb
          cases hb
      obtain ⟨n1, n2, n3, n4, n5⟩ := iU s r1 hs h1 hb1
      obtain ⟨l1, l2, l3, l4, l5⟩ := iB r1.1 r1.2 r hrl h2 hb n3 n4
      exact ⟨n1, by omega, l3, l4, by omega⟩
    · unfold aloopF at he
      split at he
      · rename_i hc
        obtain ⟨r1, h1, h2⟩ := Option.bind_eq_some_iff.1 he
        have hrl := LT.2.2.2.2.2.2 s r1 hs h1
        have hwp : wt (node 10 a.h.pl [a, r1.2]) = wt a + wt r1.2 + 1 := by unfold node; rw [wt_node, wts2]
        intro hb ha hpa
        have hb1 : r1.1.bad = false := by
          cases hbb : r1.1.bad
          · rfl
          · have := aloop_bad T hbb h2
            rw [this, hbb] at hb
            cases hb
        obtain ⟨n1, n2, n3, n4, n5⟩ := iU s r1 hs h1 hb1
        have hp := plT_head hpa
        have o1 : okT (node 10 a.h.pl [a, r1.2]) = true := okT_node (nodeB_of (l := 2) (by decide) (pl_pos hp) (by decide) n0 (fitsN (by decide) rfl) (fitsN (by decide) rfl) (fitsN (by decide) rfl)) (ok2 ha n3)
        have o2 : PlT T (node 10 a.h.pl [a, r1.2]) := plT_node hp (plK_cons hpa (plK_cons n4 (plK_nil T)))
        obtain ⟨l1, l2, l3, l4, l5⟩ := iB r1.1 _ r hrl h2 hb o1 o2
        exact ⟨n1, by omega, l3, l4, by omega⟩
      · injection he with he
        rw [← he]
        exact fun hb ha hp => ⟨hb, Nat.le_refl _, ha, hp, Nat.le_refl _⟩
    · unfold unaryF at he
      split at he
      · rename_i hb; injection he with he; rw [← he]; intro hb'; rw [show ((s, zeroT) : St × Tm).1.bad = s.bad from rfl, hb] at hb'; cases hb'
      rename_i hnb
      have hsb : s.bad = false := by cases h : s.bad; rfl; exact absurd h hnb
      have hbr : ∀ x, textOf T s.i = x → x ≠ ⟨#[]⟩ → (tel T s.i).k ≠ 6 := fun x hx hne => by
        have := textOf_some T (i := s.i) (by rw [hx]; exact hne)
        omega
      split at he
      · rename_i hpn
        have k6 := hbr _ rfl (pre_ne hpn)
        obtain ⟨q, hq, he⟩ := Option.map_eq_some_iff.1 he
        rw [← he]; intro hb
        obtain ⟨n1, n2, n3, n4, n5⟩ := iU ⟨s.i + 1, s.bad⟩ q (hG.row.next T hs k6) hq hb
        have n2' : s.i + 1 ≤ q.1.i := n2
        have n5' : wt q.2 + 1 + 2 * (s.i + 1) ≤ 2 * q.1.i := n5
        refine ⟨hsb, by show s.i ≤ q.1.i; omega, ?_, plT_node ⟨s.i, hs, k6, rfl⟩ (plK_cons n4 (plK_nil T)), ?_⟩
        · generalize preN (textOf T s.i) = m at *
          have hm : m = 0 ∨ m = 1 ∨ m = 2 ∨ m = 3 := by omega
          rcases hm with rfl | rfl | rfl | rfl <;> exact okT_node (nodeB_of (l := 1) (by decide) (pl_pos ⟨s.i, hs, k6, rfl⟩) (by decide) n0 (fitsN (by decide) rfl) (fitsN (by decide) rfl) (fitsN (by decide) rfl)) (ok1 n3)
        · show wt (.node _ [q.2]) + 1 + 2 * s.i ≤ 2 * q.1.i
          rw [wt_node, wts1]; omega
      split at he
      · rename_i hw
        have k6 := pos_of_on hG hs (by simp [wordsL]) hw
        have l1 : s.i + 1 < T.length := hG.row.next T hs k6
        obtain ⟨q, hq, he⟩ := Option.map_eq_some_iff.1 he
        rw [← he]; intro hb
        obtain ⟨n1, n2, n3, n4, n5⟩ := iU _ q (G (s := ⟨s.i + 1, s.bad⟩) (k := 3) (by decide) l1) hq hb
        obtain ⟨g1, g2, g3, g4⟩ := get_good n1
        have g2' : (getF T ⟨s.i + 1, s.bad⟩ 3).i = s.i + 1 + 1 := g2
        refine ⟨hsb, by show s.i ≤ q.1.i; omega, okT_node (by rw [g4]; exact nodeB_of (l := 1) (by decide) (pl_pos ⟨s.i, hs, k6, rfl⟩) (by decide) n0 (fitsN (by decide) rfl) (fitsN (by decide) rfl) (fitsY (by decide) (good_exn hG l1 g3))) (ok1 n3), plT_node ⟨s.i, hs, k6, rfl⟩ (plK_cons n4 (plK_nil T)), ?_⟩
        show wt (.node _ [q.2]) + 1 + 2 * s.i ≤ 2 * q.1.i
        rw [wt_node, wts1]; omega
      split at he
      · rename_i hk1
        injection he with he
        rw [← he]; intro hb
        have k6 : (tel T s.i).k ≠ 6 := by omega
        refine ⟨hsb, by show s.i ≤ s.i + 1; omega, okT_node (nodeB_of (l := 0) (by decide) (pl_pos ⟨s.i, hs, k6, rfl⟩) (by decide) ⟨(num_range _).1, (num_range _).2, fun h => absurd rfl h⟩ (fitsN (by decide) rfl) (fitsN (by decide) rfl) (fitsN (by decide) rfl)) Term.okK_nil, plT_node ⟨s.i, hs, k6, rfl⟩ (plK_nil T), ?_⟩
        show wt (.node _ []) + 1 + 2 * s.i ≤ 2 * (s.i + 1)
        rw [wt_node, Term.wts_nil]; omega
      split at he
      · rename_i hk2
        injection he with he
        rw [← he]; intro hb
        have k6 : (tel T s.i).k ≠ 6 := by omega
        refine ⟨hsb, by show s.i ≤ s.i + 1; omega, okT_node (nodeB_of (l := 0) (by decide) (pl_pos ⟨s.i, hs, k6, rfl⟩) (by decide) n0 (fitsY (by decide) (good_name hG hs hk2)) (fitsN (by decide) rfl) (fitsN (by decide) rfl)) Term.okK_nil, plT_node ⟨s.i, hs, k6, rfl⟩ (plK_nil T), ?_⟩
        show wt (.node _ []) + 1 + 2 * s.i ≤ 2 * (s.i + 1)
        rw [wt_node, Term.wts_nil]; omega
      · obtain ⟨r1, h1, he⟩ := Option.bind_eq_some_iff.1 he
        have l1 := W (s := s) (w := wOpen) (by simp [wordsL]) hs
        have l2 := LT.1 _ r1 l1 h1
        split at he
        · injection he with he
          rw [← he]; intro hb
          obtain ⟨b1, b2, b3⟩ := want_good hb
          obtain ⟨n1, n2, n3, n4, n5⟩ := iE _ r1 l1 h1 b1
          obtain ⟨a1, a2, a3⟩ := want_good n1
          refine ⟨a1, by show s.i ≤ (wantF T r1.1 wShut).i; omega, n3, n4, ?_⟩
          show wt r1.2 + 1 + 2 * s.i ≤ 2 * (wantF T r1.1 wShut).i
          omega
        · rename_i hnc
          obtain ⟨q, hq, he⟩ := Option.map_eq_some_iff.1 he
          rw [← he]; intro hb
          obtain ⟨b1, b2, b3⟩ := want_good hb
          have hc : textOf T r1.1.i = wComma := Classical.not_not.1 fun h => hnc (.inr h)
          have l3 : r1.1.i + 1 < T.length := hG.row.next T l2 (pos_of_on hG l2 (by simp [wordsL]) hc)
          obtain ⟨m1, m2, m3, m4, m5⟩ := iE ⟨r1.1.i + 1, r1.1.bad⟩ q l3 hq b1
          obtain ⟨n1, n2, n3, n4, n5⟩ := iE _ r1 l1 h1 m1
          obtain ⟨a1, a2, a3⟩ := want_good n1
          have k6 := pos_of_on hG hs (by simp [wordsL]) a3
          have m2' : r1.1.i + 1 ≤ q.1.i := m2
          have m5' : wt q.2 + 1 + 2 * (r1.1.i + 1) ≤ 2 * q.1.i := m5
          refine ⟨a1, by show s.i ≤ (wantF T q.1 wShut).i; omega, okT_node (nodeB_of (l := 2) (by decide) (pl_pos ⟨s.i, hs, k6, rfl⟩) (by decide) n0 (fitsN (by decide) rfl) (fitsN (by decide) rfl) (fitsN (by decide) rfl)) (ok2 n3 m3), plT_node ⟨s.i, hs, k6, rfl⟩ (plK_cons n4 (plK_cons m4 (plK_nil T))), ?_⟩
          show wt (.node _ [r1.2, q.2]) + 1 + 2 * s.i ≤ 2 * (wantF T q.1 wShut).i
          rw [wt_node, wts2]; omega
end Parse
end Go.Proofs.YtadpjkehflokcaaGreatDoor
namespace Go.Proofs.YtadpjkehflokcaaGreatDoor
open Go.RowKit
set_option linter.unusedVariables false
namespace Parse
open Token (Tok tel)
open Term (Tm Hd sameT sameK sameH)

/-- T's tokens ahead of its end, m of them, stand in T' from place o on; behind them stands nothing that could go on. -/
structure Like (T T' : List Tok) (o m : Nat) : Prop where
  good : Good T
  tok : ∀ i, i < m → (tel T' (i + o)).k = (tel T i).k ∧ (tel T' (i + o)).s = (tel T i).s
  last : (tel T m).k = 6
  len : T.length = m + 1
  stop : (tel T' (m + o)).k ≠ 1 ∧ (tel T' (m + o)).k ≠ 2 ∧ ∀ w ∈ wordsL, w ≠ wShut → textOf T' (m + o) ≠ w
def sh (o : Nat) (s : St) : St := ⟨s.i + o, s.bad⟩
section
variable {T T' : List Tok} {o m : Nat}
theorem Like.text (h : Like T T' o m) {i : Nat} (hi : i < m) : textOf T' (i + o) = textOf T i := by
  unfold textOf; rw [(h.tok i hi).1, (h.tok i hi).2]
theorem Like.text_end (h : Like T T' o m) : textOf T m = ⟨#[]⟩ := by unfold textOf; rw [h.last, if_neg (by decide)]
theorem Like.lt (h : Like T T' o m) {i : Nat} {w : ByteArray} (hi : i ≤ m) (hw : w ≠ ⟨#[]⟩) (ht : textOf T i = w) : i < m := by
  rcases Nat.lt_or_ge i m with h1 | h1
  · exact h1
  · obtain rfl : i = m := by omega
    rw [h.text_end] at ht
    exact absurd ht.symm hw
theorem Like.tx (h : Like T T' o m) {i : Nat} (hi : i ≤ m) {w : ByteArray} (hw : w ∈ wordsL) (hs : w ≠ wShut) : (textOf T' (i + o) = w) = (textOf T i = w) := by
  apply propext
  by_cases h1 : i < m
  · rw [h.text h1]
  · obtain rfl : i = m := by omega
    rw [h.text_end]
    exact ⟨fun e => absurd e (h.stop.2.2 w hw hs), fun e => absurd e.symm (words_apart w hw).2.2.2⟩
theorem Like.inl (h : Like T T' o m) {i : Nat} (hi : i ≤ m) {l : List ByteArray} (hl : ∀ w ∈ l, w ∈ wordsL ∧ w ≠ wShut) : inF l (textOf T' (i + o)) = inF l (textOf T i) := by
  unfold inF
  rw [Bool.eq_iff_iff, List.any_eq_true, List.any_eq_true]
  constructor
  · rintro ⟨y, hy, e⟩
    exact ⟨y, hy, decide_eq_true ((h.tx hi (hl y hy).1 (hl y hy).2).mp (of_decide_eq_true e).symm).symm⟩
  · rintro ⟨y, hy, e⟩
    exact ⟨y, hy, decide_eq_true ((h.tx hi (hl y hy).1 (hl y hy).2).mpr (of_decide_eq_true e).symm).symm⟩
theorem Like.kind (h : Like T T' o m) {i : Nat} (hi : i ≤ m) {k : Int} (hk : k = 1 ∨ k = 2) : ((tel T' (i + o)).k = k) = ((tel T i).k = k) := by
  apply propext
  by_cases h1 : i < m
  · rw [(h.tok i h1).1]
  · obtain rfl : i = m := by omega
    rw [h.last]
    obtain ⟨s1, s2, _⟩ := h.stop
    rcases hk with rfl | rfl
    · exact ⟨fun e => absurd e s1, fun e => absurd e (by decide)⟩
    · exact ⟨fun e => absurd e s2, fun e => absurd e (by decide)⟩
theorem Like.want (h : Like T T' o m) {s : St} {w : ByteArray} (hi : s.i ≤ m) (hw : w ≠ ⟨#[]⟩) (hb : (wantF T s w).bad = false) : (wantF T s w).i ≤ m ∧ wantF T' (sh o s) w = sh o (wantF T s w) ∧ s.bad = false := by
  obtain ⟨g1, g2, g3⟩ := want_good hb
  have hlt := h.lt hi hw g3
  refine ⟨by omega, ?_, g1⟩
  have e1 : wantF T s w = ⟨s.i + 1, false⟩ := by unfold wantF; rw [if_neg (by rw [g1, g3]; simp)]
  rw [e1]
  unfold wantF sh
  rw [if_neg (by show ¬ (s.bad = true ∨ textOf T' (s.i + o) ≠ w); rw [g1, h.text hlt, g3]; simp)]
  show (⟨s.i + o + 1, false⟩ : St) = ⟨s.i + 1 + o, false⟩
  congr 1; omega
theorem Like.get (h : Like T T' o m) {s : St} {k : Int} (hi : s.i ≤ m) (hk : k ≠ 6) (hb : (getF T s k).bad = false) : (getF T s k).i ≤ m ∧ getF T' (sh o s) k = sh o (getF T s k) ∧ getS T' (sh o s) k = getS T s k ∧ s.bad = false := by
  obtain ⟨g1, g2, g3, g4⟩ := get_good hb
  have hlt : s.i < m := by
    rcases Nat.lt_or_ge s.i m with h1 | h1
    · exact h1
    · have : s.i = m := by omega
      rw [this, h.last] at g3
      exact absurd g3.symm hk
  have hn : ¬ ((sh o s).bad = true ∨ (tel T' (sh o s).i).k ≠ k) := by
    show ¬ (s.bad = true ∨ (tel T' (s.i + o)).k ≠ k)
    rw [g1, (h.tok _ hlt).1, g3]; simp
  refine ⟨by omega, ?_, ?_, g1⟩
  · have e1 : getF T s k = ⟨s.i + 1, false⟩ := by unfold getF; rw [if_neg (by rw [g1, g3]; simp)]
    rw [e1]
    unfold getF
    rw [if_neg hn]
    show (⟨s.i + o + 1, false⟩ : St) = ⟨s.i + 1 + o, false⟩
    congr 1; omega
  · rw [g4]
    unfold getS
    rw [if_neg hn]
    exact (h.tok _ hlt).2
end
theorem signs_sub (k : Nat) : ∀ w ∈ signsF k, w ∈ wordsL ∧ w ≠ wShut := by
  have hh : ∀ x ∈ [wPut, wLess, wIs, wAdd, wSub, wMul], x ≠ wShut := by decide +kernel
  intro w hw
  have h1 := signs_six k w hw
  refine ⟨?_, hh w h1⟩
  simp only [List.mem_cons, List.not_mem_nil, or_false] at h1
  rcases h1 with rfl | rfl | rfl | rfl | rfl | rfl <;> simp [wordsL]
theorem same_node {h h' : Hd} {ks us : List Tm} (hh : sameH h h' = true) (hl : ks.length = us.length) (hk : sameK ks us = true) : sameT (.node h ks) (.node h' us) = true := by
  rw [Term.sameT_eq]
  show (sameH h h' && decide (ks.length = us.length) && sameK ks us) = true
  rw [hh, decide_eq_true hl, hk]; rfl
theorem sameH_pl (k op n pl pl' : Int) (nm ar ex : ByteArray) : sameH ⟨k, op, pl, n, nm, ar, ex⟩ ⟨k, op, pl', n, nm, ar, ex⟩ = true := decide_eq_true ⟨rfl, rfl, rfl, rfl, rfl, rfl⟩
theorem sameK_cons {t u : Tm} {ts us : List Tm} (h : sameT t u = true) (k : sameK ts us = true) : sameK (t :: ts) (u :: us) = true := by
  show (sameT t u && sameK ts us) = true
  rw [h, k]; rfl
theorem sameK_nil (us : List Tm) : sameK [] us = true := by unfold sameK; rfl
theorem not_shut : ∀ w ∈ [wLet, wLetrec, wFn, wIf, wTry, wFst, wSnd, wRef, wGet, wRaise, wOpen, wComma], w ≠ wShut := by decide +kernel
theorem sameK_append : ∀ (ts us vs ws : List Tm), ts.length = us.length → sameK ts us = true → sameK vs ws = true → sameK (ts ++ vs) (us ++ ws) = true
  | [], [], vs, ws, _, _, h => h
  | t :: ts, u :: us, vs, ws, hl, h, k => by
    have h' : (sameT t u && sameK ts us) = true := h
    rw [Bool.and_eq_true] at h'
    exact sameK_cons h'.1 (sameK_append ts us vs ws (by simpa using hl) h'.2 k)
  | [], u :: us, vs, ws, hl, _, _ => by simp at hl
  | t :: ts, [], vs, ws, hl, _, _ => by simp at hl

set_option maxHeartbeats 1600000 in
theorem shift_all {T T' : List Tok} {o m : Nat} (h : Like T T' o m) : ∀ n : Nat,
    (∀ s r, s.i ≤ m → exprF T n s = some r → r.1.bad = false → ∃ u, exprF T' n (sh o s) = some (sh o r.1, u) ∧ sameT r.2 u = true) ∧
    (∀ ws s q, s.i ≤ m → (∀ w ∈ ws, w = e0 ∨ w ∈ wordsL) → partsF T n ws s = some q → q.1.bad = false → ∃ us, partsF T' n ws (sh o s) = some (sh o q.1, us) ∧ q.2.length = us.length ∧ sameK q.2 us = true) ∧
    (∀ k s r, s.i ≤ m → levelF T n k s = some r → r.1.bad = false → ∃ u, levelF T' n k (sh o s) = some (sh o r.1, u) ∧ sameT r.2 u = true) ∧
    (∀ k s a a' r, s.i ≤ m → loopF T n k s a = some r → r.1.bad = false → sameT a a' = true → ∃ u, loopF T' n k (sh o s) a' = some (sh o r.1, u) ∧ sameT r.2 u = true) ∧
    (∀ s r, s.i ≤ m → applyF T n s = some r → r.1.bad = false → ∃ u, applyF T' n (sh o s) = some (sh o r.1, u) ∧ sameT r.2 u = true) ∧
    (∀ s a a' r, s.i ≤ m → aloopF T n s a = some r → r.1.bad = false → sameT a a' = true → ∃ u, aloopF T' n (sh o s) a' = some (sh o r.1, u) ∧ sameT r.2 u = true) ∧
    (∀ s r, s.i ≤ m → unaryF T n s = some r → r.1.bad = false → ∃ u, unaryF T' n (sh o s) = some (sh o r.1, u) ∧ sameT r.2 u = true) := by
  intro n
  induction n with
  | zero => refine ⟨?_, ?_, ?_, ?_, ?_, ?_, ?_⟩ <;> (intros; simp_all [exprF, partsF, levelF, loopF, applyF, aloopF, unaryF])
  | succ n ih =>
    obtain ⟨iE, iP, iL, iO, iA, iB, iU⟩ := ih
    have hG := h.good
    have hlen := h.len
    obtain ⟨LE, LP, LL, LO, LA, LB, LU⟩ := lt_all T hG.row n
    obtain ⟨NE, NP, NL, NO, NA, NB, NU⟩ := nodes_all hG n
    have NS := nodes_all hG (n + 1)
    refine ⟨fun s r hs he hb => ?_, fun ws s q hs hws he hb => ?_, fun k s r hs he hb => ?_, fun k s a a' r hs he hb ha => ?_, fun s r hs he hb => ?_, fun s a a' r hs he hb ha => ?_, fun s r hs he hb => ?_⟩
    · have hNE := NS.1 s r (by omega) he hb
      have hsb : s.bad = false := hNE.1
      have tx := fun w hw hws => h.tx (i := s.i) hs (w := w) hw hws
      have tx : ∀ w, w ∈ wordsL → w ≠ wShut → (textOf T' (sh o s).i = w ↔ textOf T s.i = w) := fun w hw hws => ⟨(tx w hw hws).mp, (tx w hw hws).mpr⟩
      unfold exprF at he ⊢
      rw [if_neg (by rw [hsb]; simp)] at he
      rw [if_neg (show ¬ (sh o s).bad = true by show ¬ s.bad = true; rw [hsb]; simp)]
      by_cases c_wLet : textOf T s.i = wLet
      · rw [if_pos c_wLet] at he
        rw [if_pos ((tx wLet (by simp [wordsL]) (not_shut _ (by simp))).mpr c_wLet)]
        obtain ⟨q, hq, he⟩ := Option.map_eq_some_iff.1 he
        rw [← he] at hb ⊢
        have l0 := want_lt T hG.row (w := wLet) (words_apart wLet (by simp [wordsL])).2.2.2 (show s.i < T.length by omega)
        have l1 := get_lt T hG.row (k := 2) (by decide) l0
        have b1 := (NP [wIs, wIn] _ q l1 (fun w hw => by simp at hw; rcases hw with rfl | rfl <;> first | exact .inl rfl | (exact .inr (by simp [wordsL]))) hq hb).1
        have b0 := (get_good b1).1
        obtain ⟨p0, e0', _⟩ := h.want hs (words_apart wLet (by simp [wordsL])).2.2.2 b0
        obtain ⟨p1, e1', g1', _⟩ := h.get p0 (by decide) b1
        obtain ⟨us, hus, hl, hk⟩ := iP [wIs, wIn] _ q p1 (fun w hw => by simp at hw; rcases hw with rfl | rfl <;> first | exact .inl rfl | (exact .inr (by simp [wordsL]))) hq hb
        refine ⟨_, by rw [e0', e1', hus]; rfl, same_node (by rw [g1']; exact sameH_pl _ _ _ _ _ _ _ _) hl hk⟩
      rw [if_neg c_wLet] at he
      rw [if_neg (show ¬ textOf T' (sh o s).i = wLet from fun e => c_wLet ((tx wLet (by simp [wordsL]) (not_shut _ (by simp))).mp e))]
      by_cases c_wLetrec : textOf T s.i = wLetrec
      · rw [if_pos c_wLetrec] at he
        rw [if_pos ((tx wLetrec (by simp [wordsL]) (not_shut _ (by simp))).mpr c_wLetrec)]
        obtain ⟨q, hq, he⟩ := Option.map_eq_some_iff.1 he
        rw [← he] at hb ⊢
        have l0 := want_lt T hG.row (w := wLetrec) (words_apart wLetrec (by simp [wordsL])).2.2.2 (show s.i < T.length by omega)
        have l1 := get_lt T hG.row (k := 2) (by decide) l0
        have l2 := get_lt T hG.row (k := 2) (by decide) l1
        have b2 := (NP [wIs, wIn] _ q l2 (fun w hw => by simp at hw; rcases hw with rfl | rfl <;> first | exact .inl rfl | (exact .inr (by simp [wordsL]))) hq hb).1
        have b1 := (get_good b2).1
        have b0 := (get_good b1).1
        obtain ⟨p0, e0', _⟩ := h.want hs (words_apart wLetrec (by simp [wordsL])).2.2.2 b0
        obtain ⟨p1, e1', g1', _⟩ := h.get p0 (by decide) b1
        obtain ⟨p2, e2', g2', _⟩ := h.get p1 (by decide) b2
        obtain ⟨us, hus, hl, hk⟩ := iP [wIs, wIn] _ q p2 (fun w hw => by simp at hw; rcases hw with rfl | rfl <;> first | exact .inl rfl | (exact .inr (by simp [wordsL]))) hq hb
        refine ⟨_, by rw [e0', e1', e2', hus]; rfl, same_node (by rw [g1', g2']; exact sameH_pl _ _ _ _ _ _ _ _) hl hk⟩
      rw [if_neg c_wLetrec] at he
      rw [if_neg (show ¬ textOf T' (sh o s).i = wLetrec from fun e => c_wLetrec ((tx wLetrec (by simp [wordsL]) (not_shut _ (by simp))).mp e))]
      by_cases c_wFn : textOf T s.i = wFn
      · rw [if_pos c_wFn] at he
        rw [if_pos ((tx wFn (by simp [wordsL]) (not_shut _ (by simp))).mpr c_wFn)]
        obtain ⟨q, hq, he⟩ := Option.map_eq_some_iff.1 he
        rw [← he] at hb ⊢
        have l0 := want_lt T hG.row (w := wFn) (words_apart wFn (by simp [wordsL])).2.2.2 (show s.i < T.length by omega)
        have l1 := get_lt T hG.row (k := 2) (by decide) l0
        have b1 := (NP [wArrow] _ q l1 (fun w hw => by simp at hw; subst hw; first | exact .inl rfl | (exact .inr (by simp [wordsL]))) hq hb).1
        have b0 := (get_good b1).1
        obtain ⟨p0, e0', _⟩ := h.want hs (words_apart wFn (by simp [wordsL])).2.2.2 b0
        obtain ⟨p1, e1', g1', _⟩ := h.get p0 (by decide) b1
        obtain ⟨us, hus, hl, hk⟩ := iP [wArrow] _ q p1 (fun w hw => by simp at hw; subst hw; first | exact .inl rfl | (exact .inr (by simp [wordsL]))) hq hb
        refine ⟨_, by rw [e0', e1', hus]; rfl, same_node (by rw [g1']; exact sameH_pl _ _ _ _ _ _ _ _) hl hk⟩
      rw [if_neg c_wFn] at he
      rw [if_neg (show ¬ textOf T' (sh o s).i = wFn from fun e => c_wFn ((tx wFn (by simp [wordsL]) (not_shut _ (by simp))).mp e))]
      by_cases c_wIf : textOf T s.i = wIf
      · rw [if_pos c_wIf] at he
        rw [if_pos ((tx wIf (by simp [wordsL]) (not_shut _ (by simp))).mpr c_wIf)]
        obtain ⟨q, hq, he⟩ := Option.map_eq_some_iff.1 he
        rw [← he] at hb ⊢
        have l0 := want_lt T hG.row (w := wIf) (words_apart wIf (by simp [wordsL])).2.2.2 (show s.i < T.length by omega)
        have b0 := (NP [e0, wThen, wElse] _ q l0 (fun w hw => by simp at hw; rcases hw with rfl | rfl | rfl <;> first | exact .inl rfl | (exact .inr (by simp [wordsL]))) hq hb).1
        obtain ⟨p0, e0', _⟩ := h.want hs (words_apart wIf (by simp [wordsL])).2.2.2 b0
        obtain ⟨us, hus, hl, hk⟩ := iP [e0, wThen, wElse] _ q p0 (fun w hw => by simp at hw; rcases hw with rfl | rfl | rfl <;> first | exact .inl rfl | (exact .inr (by simp [wordsL]))) hq hb
        refine ⟨_, by rw [e0', hus]; rfl, same_node (sameH_pl _ _ _ _ _ _ _ _) hl hk⟩
      rw [if_neg c_wIf] at he
      rw [if_neg (show ¬ textOf T' (sh o s).i = wIf from fun e => c_wIf ((tx wIf (by simp [wordsL]) (not_shut _ (by simp))).mp e))]
      by_cases c_wTry : textOf T s.i = wTry
      · rw [if_pos c_wTry] at he
        rw [if_pos ((tx wTry (by simp [wordsL]) (not_shut _ (by simp))).mpr c_wTry)]
        obtain ⟨q, hq, he⟩ := Option.bind_eq_some_iff.1 he
        obtain ⟨q2, hq2, he⟩ := Option.map_eq_some_iff.1 he
        rw [← he] at hb ⊢
        have l0 := want_lt T hG.row (w := wTry) (words_apart wTry (by simp [wordsL])).2.2.2 (show s.i < T.length by omega)
        have l1 := LP _ _ q l0 hq
        have l2 := want_lt T hG.row (w := wWith) (words_apart wWith (by simp [wordsL])).2.2.2 l1
        have l3 := get_lt T hG.row (k := 3) (by decide) l2
        have l4 := get_lt T hG.row (k := 2) (by decide) l3
        have b4 := (NP [wArrow] _ q2 l4 (fun w hw => by simp at hw; subst hw; first | exact .inl rfl | (exact .inr (by simp [wordsL]))) hq2 hb).1
        have b3 := (get_good b4).1
        have b2 := (get_good b3).1
        have b1 := (want_good b2).1
        have b0 := (NP [e0] _ q l0 (fun w hw => by simp at hw; subst hw; first | exact .inl rfl | (exact .inr (by simp [wordsL]))) hq b1).1
        obtain ⟨p0, e0', _⟩ := h.want hs (words_apart wTry (by simp [wordsL])).2.2.2 b0
        obtain ⟨us, hus, hl, hk⟩ := iP [e0] _ q p0 (fun w hw => by simp at hw; subst hw; first | exact .inl rfl | (exact .inr (by simp [wordsL]))) hq b1
        obtain ⟨p2, e2', _⟩ := h.want (s := q.1) (by omega) (words_apart wWith (by simp [wordsL])).2.2.2 b2
        obtain ⟨p3, e3', g3', _⟩ := h.get p2 (by decide) b3
        obtain ⟨p4, e4', g4', _⟩ := h.get p3 (by decide) b4
        obtain ⟨vs, hvs, hl2, hk2⟩ := iP [wArrow] _ q2 p4 (fun w hw => by simp at hw; subst hw; first | exact .inl rfl | (exact .inr (by simp [wordsL]))) hq2 hb
        refine ⟨.node ⟨16, 0, plA T' (sh o s).i, 0, ⟨#[]⟩, getS T' (getF T' (wantF T' (sh o q.1) wWith) 3) 2, getS T' (wantF T' (sh o q.1) wWith) 3⟩ (us ++ vs), ?_, same_node (by rw [e2', g3', e3', g4']; exact sameH_pl _ _ _ _ _ _ _ _) (by rw [List.length_append, List.length_append, hl, hl2]) (sameK_append _ _ _ _ hl hk hk2)⟩
        rw [e0', hus]
        show (partsF T' n [wArrow] (getF T' (getF T' (wantF T' (sh o q.1) wWith) 3) 2)).map _ = _
        rw [e2', e3', e4', hvs]
        show some (sh o q2.1, _) = some (sh o q2.1, _)
        rw [← e3', ← e2']
      rw [if_neg c_wTry] at he
      rw [if_neg (show ¬ textOf T' (sh o s).i = wTry from fun e => c_wTry ((tx wTry (by simp [wordsL]) (not_shut _ (by simp))).mp e))]
      exact iL 0 s r hs he hb
    · cases ws with
      | nil =>
        unfold partsF at he ⊢
        injection he with he
        rw [← he] at hb ⊢
        exact ⟨[], rfl, rfl, sameK_nil _⟩
      | cons w ws =>
        unfold partsF at he ⊢
        obtain ⟨r, hr, he⟩ := Option.bind_eq_some_iff.1 he
        obtain ⟨q1, hq, he⟩ := Option.map_eq_some_iff.1 he
        rw [← he] at hb ⊢
        have hw := hws w List.mem_cons_self
        have hs1 : (if w = e0 then s else wantF T s w).i < T.length := by
          split
          · omega
          · rename_i hne; exact want_lt T hG.row (words_apart _ (hw.resolve_left hne)).2.2.2 (by omega)
        have hrl := LE _ r hs1 hr
        have hws' : ∀ x ∈ ws, x = e0 ∨ x ∈ wordsL := fun x hx => hws x (List.mem_cons_of_mem _ hx)
        obtain ⟨b1, _⟩ := NP ws r.1 q1 hrl hws' hq hb
        obtain ⟨b0, _⟩ := NE _ r hs1 hr b1
        have hst : (if w = e0 then s else wantF T s w).i ≤ m ∧ (if w = e0 then sh o s else wantF T' (sh o s) w) = sh o (if w = e0 then s else wantF T s w) := by
          by_cases hwe : w = e0
          · rw [if_pos hwe, if_pos hwe]; exact ⟨hs, rfl⟩
          · rw [if_neg hwe] at b0
            rw [if_neg hwe, if_neg hwe]
            obtain ⟨w1, w2, _⟩ := h.want hs (words_apart _ (hw.resolve_left hwe)).2.2.2 b0
            exact ⟨w1, w2⟩
        obtain ⟨u, hu, hsm⟩ := iE _ r hst.1 hr b1
        obtain ⟨us, hus, hl, hk⟩ := iP ws r.1 q1 (by omega) hws' hq hb
        refine ⟨u :: us, ?_, by show q1.2.length + 1 = us.length + 1; omega, sameK_cons hsm hk⟩
        rw [hst.2, hu]
        show (partsF T' n ws (sh o r.1)).map _ = _
        rw [hus]; rfl
    · unfold levelF at he ⊢
      by_cases hk4 : k = 4
      · rw [if_pos hk4] at he ⊢
        exact iA s r hs he hb
      · rw [if_neg hk4] at he ⊢
        obtain ⟨r1, h1, h2⟩ := Option.bind_eq_some_iff.1 he
        have hrl := LL _ s r1 (by omega) h1
        have hb1 : r1.1.bad = false := by
          cases hbb : r1.1.bad
          · rfl
          · have := loop_bad T hbb h2
            rw [this, hbb] at hb
            cases hb
        obtain ⟨u, hu, hsm⟩ := iL _ s r1 hs h1 hb1
        obtain ⟨v, hv, hsv⟩ := iO k r1.1 r1.2 u r (by omega) h2 hb hsm
        exact ⟨v, by rw [hu]; exact hv, hsv⟩
    · have hin := h.inl (i := s.i) hs (l := signsF k) (signs_sub k)
      unfold loopF at he ⊢
      by_cases hc : s.bad = false ∧ inF (signsF k) (textOf T s.i) = true
      · rw [if_pos hc] at he
        have hlt := h.lt hs (in_ne (signs_ne k) hc.2) rfl
        rw [if_pos (show (sh o s).bad = false ∧ inF (signsF k) (textOf T' (sh o s).i) = true from ⟨hc.1, hin.trans hc.2⟩)]
        obtain ⟨r1, h1, h2⟩ := Option.bind_eq_some_iff.1 he
        have hs1 : (⟨s.i + 1, s.bad⟩ : St).i ≤ m := hlt
        have hrl := LL _ _ r1 (by show s.i + 1 < T.length; omega) h1
        have hst : (⟨(sh o s).i + 1, (sh o s).bad⟩ : St) = sh o ⟨s.i + 1, s.bad⟩ := by show (⟨s.i + o + 1, s.bad⟩ : St) = ⟨s.i + 1 + o, s.bad⟩; congr 1; omega
        have htx : textOf T' (sh o s).i = textOf T s.i := h.text hlt
        have hput : ∀ (a a' b b' : Tm), sameT a a' = true → sameT b b' = true → sameT (putF (textOf T s.i) a b) (putF (textOf T s.i) a' b') = true := fun a a' b b' x y => same_node (sameH_pl _ _ _ _ _ _ _ _) rfl (sameK_cons x (sameK_cons y (sameK_nil _)))
        rw [hst, htx]
        by_cases hk2 : k < 2
        · rw [if_pos hk2] at h2
          injection h2 with h2
          rw [← h2] at hb ⊢
          obtain ⟨u, hu, hsm⟩ := iL _ _ r1 hs1 h1 hb
          exact ⟨_, by rw [hu]; exact if_pos hk2, hput _ _ _ _ ha hsm⟩
        · rw [if_neg hk2] at h2
          have hb1 : r1.1.bad = false := by
            cases hbb : r1.1.bad
            · rfl
            · have := loop_bad T hbb h2
              rw [this, hbb] at hb
              cases hb
          obtain ⟨u, hu, hsm⟩ := iL _ _ r1 hs1 h1 hb1
          obtain ⟨v, hv, hsv⟩ := iO k r1.1 _ (putF (textOf T s.i) a' u) r (by omega) h2 hb (hput _ _ _ _ ha hsm)
          exact ⟨v, by rw [hu]; show (if k < 2 then _ else _) = _; rw [if_neg hk2]; exact hv, hsv⟩
      · rw [if_neg hc] at he
        injection he with he
        rw [← he]
        rw [if_neg (show ¬ ((sh o s).bad = false ∧ inF (signsF k) (textOf T' (sh o s).i) = true) from fun e => hc ⟨e.1, hin.symm.trans e.2⟩)]
        exact ⟨a', rfl, ha⟩
    · unfold applyF at he ⊢
      obtain ⟨r1, h1, h2⟩ := Option.bind_eq_some_iff.1 he
      have hrl := LU s r1 (by omega) h1
      have hb1 : r1.1.bad = false := by
        cases hbb : r1.1.bad
        · rfl
        · have := aloop_bad T hbb h2
          rw [this, hbb] at hb
          cases hb
      obtain ⟨u, hu, hsm⟩ := iU s r1 hs h1 hb1
      obtain ⟨v, hv, hsv⟩ := iB r1.1 r1.2 u r (by omega) h2 hb hsm
      exact ⟨v, by rw [hu]; exact hv, hsv⟩
    · have hst : startsF T' (sh o s) = startsF T s := by
        unfold startsF
        rw [show textOf T' (sh o s).i = textOf T' (s.i + o) from rfl, h.inl hs (fun w hw => by
          refine ⟨?_, ?_⟩
          · simp only [List.mem_cons, List.not_mem_nil, or_false] at hw
            rcases hw with rfl | rfl | rfl | rfl | rfl | rfl <;> simp [wordsL]
          · exact not_shut w (by simp only [List.mem_cons, List.not_mem_nil, or_false] at hw; rcases hw with rfl | rfl | rfl | rfl | rfl | rfl <;> simp))]
        congr 1
        rw [show (sh o s).i = s.i + o from rfl]
        exact decide_eq_decide.2 (by rw [h.kind hs (.inl rfl), h.kind hs (.inr rfl)])
      unfold aloopF at he ⊢
      rw [show (sh o s).bad = s.bad from rfl, hst]
      by_cases hc : s.bad = false ∧ startsF T s = true
      · rw [if_pos hc] at he ⊢
        obtain ⟨r1, h1, h2⟩ := Option.bind_eq_some_iff.1 he
        have hrl := LU s r1 (by omega) h1
        have hb1 : r1.1.bad = false := by
          cases hbb : r1.1.bad
          · rfl
          · have := aloop_bad T hbb h2
            rw [this, hbb] at hb
            cases hb
        obtain ⟨u, hu, hsm⟩ := iU s r1 hs h1 hb1
        obtain ⟨v, hv, hsv⟩ := iB r1.1 _ (node 10 a'.h.pl [a', u]) r (by omega) h2 hb (same_node (sameH_pl _ _ _ _ _ _ _ _) rfl (sameK_cons ha (sameK_cons hsm (sameK_nil _))))
        exact ⟨v, by rw [hu]; exact hv, hsv⟩
      · rw [if_neg hc] at he ⊢
        injection he with he
        rw [← he]
        exact ⟨a', rfl, ha⟩
    · have hNE := NS.2.2.2.2.2.2 s r (by omega) he hb
      have hsb : s.bad = false := hNE.1
      have tx := fun w hw hws => h.tx (i := s.i) hs (w := w) hw hws
      have tx : ∀ w, w ∈ wordsL → w ≠ wShut → (textOf T' (sh o s).i = w ↔ textOf T s.i = w) := fun w hw hws => ⟨(tx w hw hws).mp, (tx w hw hws).mpr⟩
      have hpre : preN (textOf T' (sh o s).i) = preN (textOf T s.i) := by
        have f1 := tx wFst (by simp [wordsL]) (not_shut _ (by simp))
        have f2 := tx wSnd (by simp [wordsL]) (not_shut _ (by simp))
        have f3 := tx wRef (by simp [wordsL]) (not_shut _ (by simp))
        have f4 := tx wGet (by simp [wordsL]) (not_shut _ (by simp))
        unfold preN
        simp only [f1, f2, f3, f4]
      have hk1 : ((tel T' (sh o s).i).k = 1 ↔ (tel T s.i).k = 1) := by rw [show (sh o s).i = s.i + o from rfl, h.kind hs (.inl rfl)]
      have hk2 : ((tel T' (sh o s).i).k = 2 ↔ (tel T s.i).k = 2) := by rw [show (sh o s).i = s.i + o from rfl, h.kind hs (.inr rfl)]
      have hnx : (⟨(sh o s).i + 1, (sh o s).bad⟩ : St) = sh o ⟨s.i + 1, s.bad⟩ := by show (⟨s.i + o + 1, s.bad⟩ : St) = ⟨s.i + 1 + o, s.bad⟩; congr 1; omega
      have hlt1 : (tel T s.i).k ≠ 6 → s.i < m := fun h6 => by
        rcases Nat.lt_or_ge s.i m with h1 | h1
        · exact h1
        · have : s.i = m := by omega
          rw [this, h.last] at h6; exact absurd rfl h6
      unfold unaryF at he ⊢
      rw [if_neg (by rw [hsb]; simp)] at he
      rw [if_neg (show ¬ (sh o s).bad = true by show ¬ s.bad = true; rw [hsb]; simp), hpre, hnx]
      by_cases c1 : preN (textOf T s.i) < 4
      · rw [if_pos c1] at he ⊢
        obtain ⟨q, hq, he⟩ := Option.map_eq_some_iff.1 he
        rw [← he] at hb ⊢
        have hlt := h.lt hs (pre_ne c1) rfl
        obtain ⟨u, hu, hsm⟩ := iU ⟨s.i + 1, s.bad⟩ q hlt hq hb
        exact ⟨node (4 + preN (textOf T s.i)) (plA T' (sh o s).i) [u], by rw [hu]; rfl, same_node (sameH_pl _ _ _ _ _ _ _ _) rfl (sameK_cons hsm (sameK_nil _))⟩
      rw [if_neg c1] at he ⊢
      by_cases c2 : textOf T s.i = wRaise
      · rw [if_pos c2] at he
        rw [if_pos ((tx wRaise (by simp [wordsL]) (not_shut _ (by simp))).mpr c2)]
        obtain ⟨q, hq, he⟩ := Option.map_eq_some_iff.1 he
        rw [← he] at hb ⊢
        have hlt := h.lt hs ((words_apart wRaise (by simp [wordsL])).2.2.2) c2
        have l1 := get_lt T hG.row (s := ⟨s.i + 1, s.bad⟩) (k := 3) (by decide) (by show s.i + 1 < T.length; omega)
        have b1 := (NU _ q l1 hq hb).1
        obtain ⟨p1, e1', g1', _⟩ := h.get (s := ⟨s.i + 1, s.bad⟩) hlt (by decide) b1
        obtain ⟨u, hu, hsm⟩ := iU _ q p1 hq hb
        exact ⟨.node ⟨15, 0, plA T' (sh o s).i, 0, ⟨#[]⟩, ⟨#[]⟩, getS T' (sh o ⟨s.i + 1, s.bad⟩) 3⟩ [u], by rw [e1', hu]; rfl, same_node (by rw [g1']; exact sameH_pl _ _ _ _ _ _ _ _) rfl (sameK_cons hsm (sameK_nil _))⟩
      rw [if_neg c2] at he
      rw [if_neg (show ¬ textOf T' (sh o s).i = wRaise from fun e => c2 ((tx wRaise (by simp [wordsL]) (not_shut _ (by simp))).mp e))]
      by_cases c3 : (tel T s.i).k = 1
      · rw [if_pos c3] at he
        rw [if_pos (hk1.mpr c3)]
        injection he with he
        rw [← he]
        have hlt := hlt1 (by omega)
        exact ⟨_, rfl, same_node (by rw [show (sh o s).i = s.i + o from rfl, (h.tok _ hlt).2]; exact sameH_pl _ _ _ _ _ _ _ _) rfl (sameK_nil _)⟩
      rw [if_neg c3] at he
      rw [if_neg (fun e => c3 (hk1.mp e))]
      by_cases c4 : (tel T s.i).k = 2
      · rw [if_pos c4] at he
        rw [if_pos (hk2.mpr c4)]
        injection he with he
        rw [← he]
        have hlt := hlt1 (by omega)
        exact ⟨_, rfl, same_node (by rw [show (sh o s).i = s.i + o from rfl, (h.tok _ hlt).2]; exact sameH_pl _ _ _ _ _ _ _ _) rfl (sameK_nil _)⟩
      rw [if_neg c4] at he
      rw [if_neg (fun e => c4 (hk2.mp e))]
      obtain ⟨r1, h1, he⟩ := Option.bind_eq_some_iff.1 he
      have l0 := want_lt T hG.row (w := wOpen) ((words_apart wOpen (by simp [wordsL])).2.2.2) (show s.i < T.length by omega)
      have l1 := LE _ r1 l0 h1
      by_cases c5 : r1.1.bad = true ∨ textOf T r1.1.i ≠ wComma
      · rw [if_pos c5] at he
        injection he with he
        rw [← he] at hb ⊢
        have b1 := (want_good hb).1
        have b0 := (NE _ r1 l0 h1 b1).1
        obtain ⟨p0, e0', _⟩ := h.want hs ((words_apart wOpen (by simp [wordsL])).2.2.2) b0
        obtain ⟨u, hu, hsm⟩ := iE _ r1 p0 h1 b1
        obtain ⟨p1, e1', _⟩ := h.want (s := r1.1) (by omega) ((words_apart wShut (by simp [wordsL])).2.2.2) hb
        have hc : textOf T r1.1.i ≠ wComma := c5.resolve_left (by rw [b1]; simp)
        refine ⟨u, ?_, hsm⟩
        rw [e0', hu]
        show (if (sh o r1.1).bad = true ∨ textOf T' (r1.1.i + o) ≠ wComma then _ else _) = _
        rw [if_pos (.inr fun e => hc ((h.tx (i := r1.1.i) (by omega) (by simp [wordsL]) (not_shut _ (by simp))).mp e))]
        show some (wantF T' (sh o r1.1) wShut, u) = _
        rw [e1']
      · rw [if_neg c5] at he
        obtain ⟨q, hq, he⟩ := Option.map_eq_some_iff.1 he
        rw [← he] at hb ⊢
        have b1 : r1.1.bad = false := by cases hbb : r1.1.bad; rfl; exact absurd (.inl hbb) c5
        have hc : textOf T r1.1.i = wComma := Classical.not_not.1 fun e => c5 (.inr e)
        have b0 := (NE _ r1 l0 h1 b1).1
        obtain ⟨p0, e0', _⟩ := h.want hs ((words_apart wOpen (by simp [wordsL])).2.2.2) b0
        obtain ⟨u, hu, hsm⟩ := iE _ r1 p0 h1 b1
        have hlt := h.lt (i := r1.1.i) (by omega) ((words_apart wComma (by simp [wordsL])).2.2.2) hc
        have b2 := (want_good hb).1
        have l2 := LE ⟨r1.1.i + 1, r1.1.bad⟩ q (by show r1.1.i + 1 < T.length; omega) hq
        obtain ⟨v, hv, hsv⟩ := iE ⟨r1.1.i + 1, r1.1.bad⟩ q hlt hq b2
        obtain ⟨p1, e1', _⟩ := h.want (s := q.1) (by omega) ((words_apart wShut (by simp [wordsL])).2.2.2) hb
        have hnx2 : (⟨(sh o r1.1).i + 1, (sh o r1.1).bad⟩ : St) = sh o ⟨r1.1.i + 1, r1.1.bad⟩ := by show (⟨r1.1.i + o + 1, r1.1.bad⟩ : St) = ⟨r1.1.i + 1 + o, r1.1.bad⟩; congr 1; omega
        refine ⟨node 3 (plA T' (sh o s).i) [u, v], ?_, same_node (sameH_pl _ _ _ _ _ _ _ _) rfl (sameK_cons hsm (sameK_cons hsv (sameK_nil _)))⟩
        rw [e0', hu]
        show (if (sh o r1.1).bad = true ∨ textOf T' (r1.1.i + o) ≠ wComma then _ else _) = _
        rw [if_neg (fun e => e.elim (fun e => by rw [show (sh o r1.1).bad = r1.1.bad from rfl, b1] at e; cases e) fun e => e ((h.tx (i := r1.1.i) (by omega) (by simp [wordsL]) (not_shut _ (by simp))).mpr hc))]
        show (exprF T' n ⟨(sh o r1.1).i + 1, (sh o r1.1).bad⟩).map _ = _
        rw [hnx2, hv]
        show some (wantF T' (sh o q.1) wShut, _) = _
        rw [e1']
end Parse
end Go.Proofs.YtadpjkehflokcaaGreatDoor
namespace Go.Proofs.YtadpjkehflokcaaGreatDoor
open Go.RowKit
set_option linter.unusedVariables false
set_option linter.unusedSimpArgs false
namespace Parse
open Token (Tok tel lex lex_tok lex_app lex_far lex_nil pre tokAt pieceK pieceN endT two)
open Term (Tm Hd sameT sameK sameH)
open Chars (cls el)


/-! ### Sameness goes both ways -/
theorem sameH_symm {a b : Hd} (h : sameH a b = true) : sameH b a = true := by
  unfold sameH at h ⊢
  obtain ⟨h1, h2, h3, h4, h5, h6⟩ := of_decide_eq_true h
  exact decide_eq_true ⟨h1.symm, h2.symm, h3.symm, h4.symm, h5.symm, h6.symm⟩
theorem same_symm : ∀ m : Nat, (∀ t u : Tm, Term.wt t ≤ m → sameT t u = true → sameT u t = true) ∧ (∀ ts us : List Tm, Term.wts ts ≤ m → ts.length = us.length → sameK ts us = true → sameK us ts = true) := by
  intro m
  induction m with
  | zero =>
    refine ⟨fun t u h => by have := Term.wt_pos t; omega, fun ts us h hl _ => ?_⟩
    cases ts with
    | nil => cases us with
      | nil => unfold sameK; rfl
      | cons u us => simp at hl
    | cons t ts => rw [Term.wts_cons] at h; have := Term.wt_pos t; omega
  | succ m ih =>
    have hT : ∀ t u : Tm, Term.wt t ≤ m + 1 → sameT t u = true → sameT u t = true := by
      intro t u hm h
      rw [Term.sameT_eq, Bool.and_eq_true, Bool.and_eq_true] at h ⊢
      have hl := of_decide_eq_true h.1.2
      have := Term.wt_ks t
      exact ⟨⟨sameH_symm h.1.1, decide_eq_true hl.symm⟩, ih.2 t.ks u.ks (by omega) hl h.2⟩
    refine ⟨hT, fun ts => ?_⟩
    induction ts with
    | nil =>
      intro us _ hl _
      cases us with
      | nil => unfold sameK; rfl
      | cons u us => simp at hl
    | cons t ts iht =>
      intro us hm hl h
      cases us with
      | nil => simp at hl
      | cons u us =>
        rw [Term.wts_cons] at hm
        have := Term.wt_pos t
        rw [Term.sameK_cons, Bool.and_eq_true] at h ⊢
        exact ⟨hT t u (by omega) h.1, iht us (by omega) (by simpa using hl) h.2⟩
theorem sameT_symm {t u : Tm} (h : sameT t u = true) : sameT u t = true := (same_symm (Term.wt t)).1 t u (Nat.le_refl _) h

/-! ### Tokens, but for places -/
def ks (ts : List Tok) : List (Int × ByteArray) := ts.map fun t => (t.k, t.s)
theorem ks_len (ts : List Tok) : (ks ts).length = ts.length := by unfold ks; simp
theorem ks_app (ts us : List Tok) : ks (ts ++ us) = ks ts ++ ks us := by unfold ks; simp
def kat (l : List (Int × ByteArray)) (i : Nat) : Int × ByteArray := l.getD i (0, ⟨#[]⟩)
theorem kat_left {l m : List (Int × ByteArray)} {i : Nat} (h : i < l.length) : kat (l ++ m) i = kat l i := by
  unfold kat; rw [List.getD_eq_getElem?_getD, List.getD_eq_getElem?_getD, List.getElem?_append_left h]
theorem kat_right {l m : List (Int × ByteArray)} {i j : Nat} (h : j = l.length + i) : kat (l ++ m) j = kat m i := by
  subst h
  unfold kat; rw [List.getD_eq_getElem?_getD, List.getD_eq_getElem?_getD, List.getElem?_append_right (by omega), Nat.add_sub_cancel_left]
theorem tel_kat {ts us : List Tok} {i : Nat} (h : i < ts.length) : (tel (ts ++ us) i).k = (kat (ks ts) i).1 ∧ (tel (ts ++ us) i).s = (kat (ks ts) i).2 := by
  rw [tel_left ts us i h]
  unfold tel kat ks
  rw [List.getD_eq_getElem?_getD, List.getD_eq_getElem?_getD, List.getElem?_map, List.getElem?_eq_getElem h]
  exact ⟨rfl, rfl⟩
def LexIs (xs : List Int) (l : List (Int × ByteArray)) : Prop := ∀ a, ∃ us, lex xs a = .inr us ∧ ks us = l
theorem lexIs_of {xs : List Int} {ts : List Tok} (h : lex xs 0 = .inr ts) : LexIs xs (ks ts) := by
  intro a
  obtain ⟨us, h1, h2, h3⟩ := lex_far xs.length xs 0 a ts (Nat.le_refl _) h
  refine ⟨us, h1, ?_⟩
  apply List.ext_getElem
  · rw [ks_len, ks_len, h2]
  · intro i hi hj
    rw [ks_len] at hi hj
    obtain ⟨e1, e2⟩ := h3 i hj
    rw [List.getD_eq_getElem?_getD, List.getD_eq_getElem?_getD, List.getElem?_eq_getElem hi, List.getElem?_eq_getElem hj] at e1 e2
    simp only [ks, List.getElem_map]
    exact Prod.ext e1 e2
theorem lexIs_app {xs zs : List Int} {l m : List (Int × ByteArray)} (h : LexIs xs l) (hz : Token.Halt zs) (k : LexIs zs m) : LexIs (xs ++ zs) (l ++ m) := by
  intro a
  obtain ⟨us, h1, h2⟩ := h a
  obtain ⟨vs, k1, k2⟩ := k (a + xs.length)
  exact ⟨us ++ vs, by rw [lex_app zs hz xs.length xs a us (Nat.le_refl _) h1, k1]; rfl, by rw [ks_app, h2, k2]⟩
/-- A bracket ahead of whatever. -/
theorem lexIs_bracket {c : Int} (hc : c = 40 ∨ c = 41) {zs : List Int} {m : List (Int × ByteArray)} (k : LexIs zs m) : LexIs (c :: zs) ((5, strOfNums [c]) :: m) := by
  have h2 : two (c :: zs) = false := by
    unfold two
    apply decide_eq_false
    have e : el (c :: zs) 0 = c := rfl
    rw [e]
    omega
  have hcl : cls c = 5 := by rcases hc with rfl | rfl <;> decide +kernel
  have e0 : el (c :: zs) 0 = c := rfl
  have hN : pieceN (c :: zs) = 1 := by
    unfold pieceN
    rw [e0, hcl, h2]
    rfl
  have hK : pieceK (c :: zs) = 5 := by
    unfold pieceK
    rw [e0, hcl, h2]
    rcases hc with rfl | rfl <;> rfl
  intro a
  obtain ⟨vs, k1, k2⟩ := k (a + 1)
  refine ⟨tokAt (c :: zs) a :: vs, ?_, ?_⟩
  · rw [lex_tok (c :: zs) a (by simp) (by rw [hK]; decide), hN]
    show pre _ (lex zs (a + 1)) = _
    rw [k1]; rfl
  · unfold ks at k2 ⊢
    rw [List.map_cons, k2]
    unfold tokAt
    rw [hK, hN]
    rfl
theorem halt_bracket (c : Int) (hc : c = 40 ∨ c = 41) (zs : List Int) : Token.Halt (c :: zs) := by
  right
  have e0 : el (c :: zs) 0 = c := rfl
  rw [e0]
  rcases hc with rfl | rfl <;> decide +kernel
/-- The signs, and the kinds of their tokens. -/
def sgX : Nat → List Int
  | 0 => [43] | 1 => [45] | 2 => [42] | 3 => [60] | 4 => [61] | 5 => [58, 61] | _ => []
def sgW : Nat → ByteArray
  | 0 => wAdd | 1 => wSub | 2 => wMul | 3 => wLess | 4 => wIs | 5 => wPut | _ => ⟨#[]⟩
def sgK : Nat → List (Int × ByteArray)
  | 6 => [] | n => [(5, sgW n)]
theorem lexIs_sign (q : Nat) (hq : q ≤ 6) : LexIs (sgX q) (sgK q) := by
  have h : ∀ us, lex (sgX q) 0 = .inr us → ks us = sgK q → LexIs (sgX q) (sgK q) := fun us h1 h2 => h2 ▸ lexIs_of h1
  have hh : q = 0 ∨ q = 1 ∨ q = 2 ∨ q = 3 ∨ q = 4 ∨ q = 5 ∨ q = 6 := by omega
  rcases hh with rfl | rfl | rfl | rfl | rfl | rfl | rfl
  · exact h [⟨5, wAdd, 0⟩] (by kernel_rfl) rfl
  · exact h [⟨5, wSub, 0⟩] (by kernel_rfl) rfl
  · exact h [⟨5, wMul, 0⟩] (by kernel_rfl) rfl
  · exact h [⟨5, wLess, 0⟩] (by kernel_rfl) rfl
  · exact h [⟨5, wIs, 0⟩] (by kernel_rfl) rfl
  · exact h [⟨5, wPut, 0⟩] (by kernel_rfl) rfl
  · exact h [] (by kernel_rfl) rfl
def joinX (q : Nat) (xs ys : List Int) : List Int := 40 :: (xs ++ 41 :: (sgX q ++ 40 :: (ys ++ [41])))
theorem lexIs_join (q : Nat) (hq : q ≤ 6) {xs ys : List Int} {l m : List (Int × ByteArray)} (h : LexIs xs l) (k : LexIs ys m) :
    LexIs (joinX q xs ys) ((5, wOpen) :: (l ++ (5, wShut) :: (sgK q ++ (5, wOpen) :: (m ++ [(5, wShut)])))) := by
  have e1 : LexIs ([] : List Int) [] := fun a => ⟨[], lex_nil a, rfl⟩
  have s1 : strOfNums [40] = wOpen := by kernel_rfl
  have s2 : strOfNums [41] = wShut := by kernel_rfl
  have h41 := lexIs_bracket (c := 41) (.inr rfl) e1
  rw [s2] at h41
  have hb := lexIs_app k (halt_bracket 41 (.inr rfl) []) h41
  have hob := lexIs_bracket (c := 40) (.inl rfl) hb
  rw [s1] at hob
  have hs := lexIs_app (lexIs_sign q hq) (halt_bracket 40 (.inl rfl) _) hob
  have hc := lexIs_bracket (c := 41) (.inr rfl) hs
  rw [s2] at hc
  have ha := lexIs_app h (halt_bracket 41 (.inr rfl) _) hc
  have hoa := lexIs_bracket (c := 40) (.inl rfl) ha
  rw [s1] at hoa
  exact hoa

/-! ### Reading them -/
/-- What is known of a text that a term comes of. -/
structure Whole (ts : List Tok) (m : Nat) (x : Tm) : Prop where
  good : Good (ts ++ [endT m])
  expr : ∃ n, exprF (ts ++ [endT m]) n ⟨0, false⟩ = some (⟨ts.length, false⟩, x)
theorem whole_of {xs : List Int} {x : Tm} (h : termRes xs = .good x) : ∃ ts, lex xs 0 = .inr ts ∧ ts.length ≤ xs.length ∧ Whole ts xs.length x := by
  unfold termRes at h
  split at h
  · cases h
  cases hl : lex xs 0 with
  | inl j => rw [hl] at h; cases h
  | inr ts =>
    rw [hl] at h
    have h' : toksRes ts xs.length = .good x := h
    have hlen := Token.lex_len hl
    unfold toksRes at h'
    split at h'
    · cases h'
    have hG := good_of_lex hl
    obtain ⟨r, hr⟩ := enough0 hG.row
    rw [hr] at h'
    unfold resOf at h'
    simp only at h'
    split at h'
    · rename_i hc
      injection h' with h'
      have hlt := (lt_all _ hG.row _).1 ⟨0, false⟩ r (by simp) hr
      rw [List.length_append, List.length_singleton] at hlt
      have hi : r.1.i = ts.length := by
        rcases Nat.lt_or_ge r.1.i ts.length with h1 | h1
        · exfalso
          have hg := placed_good ts xs 0 (Token.lex_placed _ xs 0 ts (Nat.le_refl _) hl)
          have := (hg _ (tel_mem h1)).kind
          rw [tel_left _ _ _ h1] at hc
          omega
        · omega
      refine ⟨ts, rfl, hlen, hG, fuelOf (ts ++ [endT xs.length]), ?_⟩
      rw [hr]
      obtain ⟨⟨i, bad⟩, t⟩ := r
      have hi' : i = ts.length := hi
      have hb' : bad = false := hc.1
      have ht' : t = x := h'
      rw [hi', hb', ht']
    · cases h'
/-- The tokens of a text that stand within another one's, in brackets. -/
theorem inner {T' ts : List Tok} {m o : Nat} {x : Tm} (h : Whole ts m x) (htok : ∀ i, i < ts.length → (tel T' (i + o)).k = (tel ts i).k ∧ (tel T' (i + o)).s = (tel ts i).s) (hsh : (tel T' (ts.length + o)).k = 5 ∧ (tel T' (ts.length + o)).s = wShut) :
    ∃ u, EE T' o (ts.length + o) u ∧ sameT x u = true := by
  have htx : textOf T' (ts.length + o) = wShut := by unfold textOf; rw [hsh.1, if_pos (.inr rfl), hsh.2]
  have hL : Like (ts ++ [endT m]) T' o ts.length := {
    good := h.good
    tok := fun i hi => by rw [tel_left ts _ i hi]; exact htok i hi
    last := by rw [tel_end]; rfl
    len := by simp
    stop := ⟨by rw [hsh.1]; decide, by rw [hsh.1]; decide, fun w _ hn => by rw [htx]; exact fun e => hn e.symm⟩ }
  obtain ⟨n, hn⟩ := h.expr
  obtain ⟨u, h1, h2⟩ := (shift_all hL n).1 ⟨0, false⟩ _ (Nat.zero_le _) hn rfl
  refine ⟨u, ⟨n, ?_⟩, h2⟩
  have e : sh o ⟨0, false⟩ = ⟨o, false⟩ := by unfold sh; simp
  rw [e] at h1
  exact h1
end Parse
end Go.Proofs.YtadpjkehflokcaaGreatDoor
namespace Go.Proofs.YtadpjkehflokcaaGreatDoor
open Go.RowKit
set_option linter.unusedVariables false
set_option linter.unusedSimpArgs false
namespace Parse
open Token (Tok tel lex endT)
open Term (Tm Hd sameT)

/-- A row of tokens that is known but for places, its end behind it. -/
structure Row2 (T : List Tok) (l : List (Int × ByteArray)) : Prop where
  tok : ∀ i, i < l.length → (tel T i).k = (kat l i).1 ∧ (tel T i).s = (kat l i).2
  fin : (tel T l.length).k = 6
theorem row2_of {us : List Tok} {l : List (Int × ByteArray)} {m : Nat} (h : ks us = l) : Row2 (us ++ [endT m]) l := by
  subst h
  refine ⟨fun i hi => tel_kat (by rw [← ks_len]; exact hi), ?_⟩
  rw [ks_len, tel_end]; rfl
theorem Row2.text5 {T : List Tok} {l : List (Int × ByteArray)} (h : Row2 T l) {i : Nat} {w : ByteArray} (hi : i < l.length) (hk : kat l i = (5, w)) : (tel T i).k = 5 ∧ (tel T i).s = w ∧ textOf T i = w := by
  obtain ⟨h1, h2⟩ := h.tok i hi
  rw [hk] at h1 h2
  exact ⟨h1, h2, by unfold textOf; rw [h1, if_pos (.inr rfl), h2]⟩
theorem stops_end {T : List Tok} {j : Nat} (h : (tel T j).k = 6) (k : Nat) : Stops T k j := by
  have ht : textOf T j = ⟨#[]⟩ := by unfold textOf; rw [h, if_neg (by decide)]
  refine ⟨?_, fun l _ hl => ?_⟩
  · unfold startsF
    show (decide ((tel T j).k = 1 ∨ (tel T j).k = 2) || inF _ (textOf T j)) = false
    rw [h, ht]
    decide +kernel
  · rw [ht]
    have hh : l = 0 ∨ l = 1 ∨ l = 2 ∨ l = 3 := by omega
    rcases hh with rfl | rfl | rfl | rfl <;> decide +kernel
theorem starts_sign {T : List Tok} {j : Nat} {w : ByteArray} (hk : (tel T j).k = 5) (ht : textOf T j = w) (hw : inF [wGet, wRef, wFst, wSnd, wRaise, wOpen] w = false) : startsF T ⟨j, false⟩ = false := by
  unfold startsF
  show (decide ((tel T j).k = 1 ∨ (tel T j).k = 2) || inF _ (textOf T j)) = false
  rw [hk, ht, hw]
  decide
theorem noHead_open {T : List Tok} {i : Nat} (h : textOf T i = wOpen) : NoHead T i := by
  unfold NoHead
  rw [h]
  decide +kernel
/-- The level of a sign. -/
def sgL : Nat → Nat
  | 0 => 2 | 1 => 2 | 2 => 3 | 3 => 1 | 4 => 1 | _ => 0
def sgKind : Nat → Int
  | 5 => 8 | 6 => 10 | _ => 9
def sgOp : Nat → Int
  | 0 => 1 | 1 => 2 | 2 => 3 | 3 => 4 | 4 => 5 | _ => 0
theorem sign_level : ∀ q, q < 6 → inF (signsF (sgL q)) (sgW q) = true ∧ (∀ l, sgL q + 1 ≤ l → l < 4 → inF (signsF l) (sgW q) = false) ∧ inF [wGet, wRef, wFst, wSnd, wRaise, wOpen] (sgW q) = false ∧ sgL q < 4 ∧ opK (sgW q) = sgKind q ∧ opO (sgW q) = sgOp q ∧ sgK q = [(5, sgW q)] := by
  intro q hq
  have hh : q = 0 ∨ q = 1 ∨ q = 2 ∨ q = 3 ∨ q = 4 ∨ q = 5 := by omega
  have hl : ∀ (p : Nat → Prop) (a : Nat), (∀ l, l < 4 → a ≤ l → p l) → ∀ l, a ≤ l → l < 4 → p l := fun p a h l h1 h2 => h l h2 h1
  rcases hh with rfl | rfl | rfl | rfl | rfl | rfl
  all_goals
    refine ⟨by decide +kernel, hl _ _ (fun l h4 h1 => ?_), by decide +kernel, by decide, by decide +kernel, by decide +kernel, rfl⟩
    have hh : l = 0 ∨ l = 1 ∨ l = 2 ∨ l = 3 := by omega
    rcases hh with rfl | rfl | rfl | rfl
    all_goals first
      | decide +kernel
      | (exfalso; revert h1; decide)
theorem join_res (q : Nat) (hq : q ≤ 6) {xs ys : List Int} {x y : Tm} (hx : termRes xs = .good x) (hy : termRes ys = .good y) (hlx : xs.length ≤ 500) (hly : ys.length ≤ 500) :
    ∃ pl u v, termRes (joinX q xs ys) = .good (.node ⟨sgKind q, sgOp q, pl, 0, ⟨#[]⟩, ⟨#[]⟩, ⟨#[]⟩⟩ [u, v]) ∧ sameT u x = true ∧ sameT v y = true := by
  obtain ⟨ta, hla, hna, hWa⟩ := whole_of hx
  obtain ⟨tb, hlb, hnb, hWb⟩ := whole_of hy
  obtain ⟨us, hlu, hku⟩ := lexIs_join q hq (lexIs_of hla) (lexIs_of hlb) 0
  have hsg : (sgK q).length ≤ 1 := by
    have hh : q = 0 ∨ q = 1 ∨ q = 2 ∨ q = 3 ∨ q = 4 ∨ q = 5 ∨ q = 6 := by omega
    rcases hh with rfl | rfl | rfl | rfl | rfl | rfl | rfl <;> decide
  have hsx : (sgX q).length ≤ 2 := by
    have hh : q = 0 ∨ q = 1 ∨ q = 2 ∨ q = 3 ∨ q = 4 ∨ q = 5 ∨ q = 6 := by omega
    rcases hh with rfl | rfl | rfl | rfl | rfl | rfl | rfl <;> decide
  have hulen : us.length = ta.length + tb.length + (sgK q).length + 4 := by
    have := congrArg List.length hku
    rw [ks_len] at this
    simp only [List.length_cons, List.length_append, ks_len, List.length_nil] at this
    omega
  have hJ : (joinX q xs ys).length ≤ 1006 := by
    unfold joinX
    simp only [List.length_cons, List.length_append, List.length_nil]
    omega
  have hR := row2_of (m := (joinX q xs ys).length) hku
  -- what it comes to, of what is read
  have hfin : ∀ (t : Tm), EE (us ++ [endT (joinX q xs ys).length]) 0 us.length t → termRes (joinX q xs ys) = .good t := by
    intro t ht
    unfold termRes
    rw [if_neg (by omega), hlu]
    show toksRes us _ = _
    unfold toksRes
    rw [if_neg (by omega)]
    obtain ⟨r, hr⟩ := enough0 (good_of_lex hlu).row
    have e := ht.det hr
    rw [hr, e]
    exact if_pos ⟨rfl, by show (tel _ us.length).k = 6; rw [tel_end]; rfl⟩
  generalize us ++ [endT (joinX q xs ys).length] = T at *
  generalize hl1 : ks tb ++ [((5 : Int), wShut)] = B at hR
  have hBl : B.length = tb.length + 1 := by rw [← hl1]; simp [ks_len]
  have hll : ((5, wOpen) :: (ks ta ++ (5, wShut) :: (sgK q ++ (5, wOpen) :: B)) : List (Int × ByteArray)).length = us.length := by
    simp only [List.length_cons, List.length_append, ks_len, hBl]
    omega
  have hend : (tel T us.length).k = 6 := by rw [← hll]; exact hR.fin
  -- the tokens, each at its place
  have k0 := hR.text5 (i := 0) (w := wOpen) (by rw [hll]; omega) rfl
  have ka : ∀ i, i < ta.length → (tel T (i + 1)).k = (tel ta i).k ∧ (tel T (i + 1)).s = (tel ta i).s := by
    intro i hi
    obtain ⟨h1, h2⟩ := hR.tok (i + 1) (by rw [hll]; omega)
    have e : kat ((5, wOpen) :: (ks ta ++ (5, wShut) :: (sgK q ++ (5, wOpen) :: B))) (i + 1) = kat (ks ta) i := by
      show kat (ks ta ++ (5, wShut) :: (sgK q ++ (5, wOpen) :: B)) i = _
      exact kat_left (by rw [ks_len]; exact hi)
    rw [e] at h1 h2
    have h3 := tel_kat (us := []) hi
    rw [List.append_nil] at h3
    exact ⟨h1.trans h3.1.symm, h2.trans h3.2.symm⟩
  have kc := hR.text5 (i := ta.length + 1) (w := wShut) (by rw [hll]; omega) (by
    show kat (ks ta ++ (5, wShut) :: (sgK q ++ (5, wOpen) :: B)) ta.length = _
    rw [kat_right (i := 0) (by rw [ks_len]; omega)]
    rfl)
  have rest : ∀ i, kat ((5, wOpen) :: (ks ta ++ (5, wShut) :: (sgK q ++ (5, wOpen) :: B))) (ta.length + 2 + i) = kat (sgK q ++ (5, wOpen) :: B) i := by
    intro i
    have e1 : ((5, wOpen) :: (ks ta ++ (5, wShut) :: (sgK q ++ (5, wOpen) :: B)) : List (Int × ByteArray)) = ((5, wOpen) :: (ks ta ++ [(5, wShut)])) ++ (sgK q ++ (5, wOpen) :: B) := by simp
    rw [e1]
    exact kat_right (by simp only [List.length_cons, List.length_append, ks_len, List.length_nil] <;> omega)
  -- the second text, from a bracket at the place o on
  have second : ∀ o, o = ta.length + 2 + (sgK q).length → textOf T o = wOpen ∧ (tel T o).k = 5 ∧ ∃ v, EU T o us.length v ∧ sameT y v = true := by
    intro o ho
    have ko := hR.text5 (i := o) (w := wOpen) (by rw [hll]; omega) (by
      rw [ho, rest, kat_right (i := 0) (by omega)]
      rfl)
    have kb : ∀ i, i < tb.length → (tel T (i + (o + 1))).k = (tel tb i).k ∧ (tel T (i + (o + 1))).s = (tel tb i).s := by
      intro i hi
      obtain ⟨h1, h2⟩ := hR.tok (i + (o + 1)) (by rw [hll]; omega)
      have e : kat ((5, wOpen) :: (ks ta ++ (5, wShut) :: (sgK q ++ (5, wOpen) :: B))) (i + (o + 1)) = kat (ks tb) i := by
        have e2 : i + (o + 1) = ta.length + 2 + ((sgK q).length + (i + 1)) := by omega
        rw [e2, rest, kat_right rfl]
        show kat B i = _
        rw [← hl1]
        exact kat_left (by rw [ks_len]; exact hi)
      rw [e] at h1 h2
      have h3 := tel_kat (us := []) hi
      rw [List.append_nil] at h3
      exact ⟨h1.trans h3.1.symm, h2.trans h3.2.symm⟩
    have kd := hR.text5 (i := tb.length + (o + 1)) (w := wShut) (by rw [hll]; omega) (by
      have e2 : tb.length + (o + 1) = ta.length + 2 + ((sgK q).length + (tb.length + 1)) := by omega
      rw [e2, rest, kat_right rfl]
      show kat B tb.length = _
      rw [← hl1, kat_right (i := 0) (by rw [ks_len]; omega)]
      rfl)
    obtain ⟨v, hv, hs⟩ := inner hWb kb ⟨kd.1, kd.2.1⟩
    have hu := EU.brackets ko.2.2 ko.1 hv kd.2.2
    rw [show tb.length + (o + 1) + 1 = us.length from by omega] at hu
    exact ⟨ko.2.2, ko.1, v, hu, hs⟩
  obtain ⟨u, hu, hsu⟩ := inner hWa ka ⟨kc.1, kc.2.1⟩
  have hU := EU.brackets k0.2.2 k0.1 hu kc.2.2
  have hE := stops_end hend
  by_cases h6 : q = 6
  · subst h6
    obtain ⟨o1, o2, v, hv, hsv⟩ := second (ta.length + 2) rfl
    have hst : startsF T ⟨ta.length + 1 + 1, false⟩ = true := by
      unfold startsF
      show (decide _ || inF _ (textOf T (ta.length + 2))) = true
      rw [o1]
      have : inF [wGet, wRef, wFst, wSnd, wRaise, wOpen] wOpen = true := by decide +kernel
      rw [this, Bool.or_true]
    have hB : EB T (ta.length + 1 + 1) u us.length (node 10 u.h.pl [u, v]) := EB.step hst hv (EB.stop _ (hE 0).1)
    have hL := EL.up (EL.four (EA.of hU hB)) 4 0 rfl (Nat.le_refl _) (hE 0)
    exact ⟨_, u, v, hfin _ (EE.of (noHead_open k0.2.2) hL), sameT_symm hsu, sameT_symm hsv⟩
  · obtain ⟨g1, g2, g3, g4, g5, g6, g7⟩ := sign_level q (by omega)
    have ks1 := hR.text5 (i := ta.length + 2) (w := sgW q) (by rw [hll, hulen, g7]; simp; omega) (by
      have := rest 0
      rw [Nat.add_zero] at this
      rw [this, g7]
      rfl)
    obtain ⟨o1, o2, v, hv, hsv⟩ := second (ta.length + 3) (by rw [g7]; rfl)
    have hS : Stops T (sgL q + 1) (ta.length + 1 + 1) := ⟨starts_sign ks1.1 ks1.2.2 g3, fun l h1 h2 => by show inF (signsF l) (textOf T (ta.length + 2)) = false; rw [ks1.2.2]; exact g2 l h1 h2⟩
    have hL1 := EL.climb hU (4 - (sgL q + 1)) (sgL q + 1) (by omega) hS
    have hL2 := EL.climb hv (4 - (sgL q + 1)) (sgL q + 1) (by omega) (hE _)
    have hin : inF (signsF (sgL q)) (textOf T (ta.length + 1 + 1)) = true := by show inF _ (textOf T (ta.length + 2)) = true; rw [ks1.2.2]; exact g1
    have hO : EO T (sgL q) (ta.length + 1 + 1) u us.length (putF (textOf T (ta.length + 1 + 1)) u v) := by
      by_cases h2 : sgL q < 2
      · exact EO.once h2 hin hL2
      · exact EO.step h2 hin hL2 (EO.stop _ ((hE 0).2 _ (Nat.zero_le _) g4))
    have hL := EL.up (EL.of (by omega) hL1 hO) (sgL q) 0 (Nat.zero_add _) (by omega) (hE 0)
    have ht : textOf T (ta.length + 1 + 1) = sgW q := ks1.2.2
    rw [ht] at hL
    unfold putF at hL
    rw [g5, g6] at hL
    exact ⟨_, u, v, hfin _ (EE.of (noHead_open k0.2.2) hL), sameT_symm hsu, sameT_symm hsv⟩
end Parse
end Go.Proofs.YtadpjkehflokcaaGreatDoor
