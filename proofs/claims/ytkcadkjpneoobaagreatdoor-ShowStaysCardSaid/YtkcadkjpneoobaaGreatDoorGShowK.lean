/-What is shown is read as the same: how a term's words are read, wherever they stand. What is shown is read as the same: each kind of term. What is shown is read as the same: the kinds, one by one. What is shown is read as the same: signs, applications, and the loosest part. What is shown is read as the same: the loosest part; all terms. What is shown is read as the same: the text, whole. -/
import Derived.Test.YtkcadkjpneoobaaGreatDoorGShowC
import Derived.Test.YtkcadkjpneoobaaGreatDoorGParseL
import Derived.Test.YtkcadkjpneoobaaGreatDoorGParseK
import Derived.Test.YtkcadkjpneoobaaGreatDoorGShowD
namespace Go.Proofs.YtkcadkjpneoobaaGreatDoor
open Go.RowKit
set_option linter.unusedVariables false
set_option linter.unusedSimpArgs false
namespace Show
open Parse
open Token (Tok tel)
open Term (Tm Hd tget wt wts okT okK sameT sameK sameH)
open Words (nameB exnB numB kwN)

/-- The kind of a word's token. -/
def kindW (w : ByteArray) : Int := if numB w.data.toList = true then 1 else if nameB w = true then 2 else if exnB w = true then 3 else if 0 < kwN w.data.toList then 4 else 5
/-- Words stand in the row of tokens, from the place i on. -/
def At (T : List Tok) (i : Nat) (ws : List ByteArray) : Prop := ∀ j, j < ws.length → (tel T (i + j)).k = kindW (ws.getD j ⟨#[]⟩) ∧ (tel T (i + j)).s = ws.getD j ⟨#[]⟩
theorem At.app {T : List Tok} {i : Nat} {a b : List ByteArray} (h : At T i (a ++ b)) : At T i a ∧ At T (i + a.length) b := by
  refine ⟨fun j hj => ?_, fun j hj => ?_⟩
  · have := h j (by rw [List.length_append]; omega)
    rw [List.getD_eq_getElem?_getD, List.getElem?_append_left hj, ← List.getD_eq_getElem?_getD] at this
    exact this
  · have := h (a.length + j) (by rw [List.length_append]; omega)
    rw [List.getD_eq_getElem?_getD, List.getElem?_append_right (by omega), Nat.add_sub_cancel_left, ← List.getD_eq_getElem?_getD, ← Nat.add_assoc] at this
    exact this
theorem At.cons {T : List Tok} {i : Nat} {w : ByteArray} {b : List ByteArray} (h : At T i (w :: b)) : ((tel T i).k = kindW w ∧ (tel T i).s = w) ∧ At T (i + 1) b := by
  refine ⟨h 0 (by simp), fun j hj => ?_⟩
  have := h (j + 1) (by simpa using hj)
  rw [show i + (j + 1) = i + 1 + j from by omega] at this
  exact this
theorem At.text {T : List Tok} {i : Nat} {w : ByteArray} (h : (tel T i).k = kindW w ∧ (tel T i).s = w) (hk : kindW w = 4 ∨ kindW w = 5) : textOf T i = w := by
  unfold textOf
  rw [h.1, if_pos hk, h.2]

/-- How what stands between i and j is read, as a part p of the grammar. -/
structure Rd (T : List Tok) (i j : Nat) (x : Tm) (p : Int) : Prop where
  u : 6 ≤ p → EU T i j x
  a : 5 ≤ p → ∀ l y, EB T j x l y → EA T i l y
  m : 4 ≤ p → startsF T ⟨j, false⟩ = false → ∀ l y, EO T 3 j x l y → EL T 3 i l y
  s : 3 ≤ p → Stops T 3 j → ∀ l y, EO T 2 j x l y → EL T 2 i l y
  r : 2 ≤ p → Stops T 1 j → EL T 1 i j x
  st : 1 ≤ p → Stops T 0 j → EL T 0 i j x
  e : 0 ≤ p → Stops T 0 j → EE T i j x
  nh : 1 ≤ p → NoHead T i
  su : 6 ≤ p → startsF T ⟨i, false⟩ = true
theorem Rd.weaken {T : List Tok} {i j : Nat} {x : Tm} {p q : Int} (h : Rd T i j x p) (hq : q ≤ p) : Rd T i j x q :=
  ⟨fun k => h.u (by omega), fun k => h.a (by omega), fun k => h.m (by omega), fun k => h.s (by omega), fun k => h.r (by omega), fun k => h.st (by omega), fun k => h.e (by omega), fun k => h.nh (by omega), fun k => h.su (by omega)⟩
section
variable {T : List Tok} {i j : Nat} {x : Tm}
theorem Rd.ofE (h : Stops T 0 j → EE T i j x) : Rd T i j x 0 :=
  ⟨fun k => absurd k (by decide), fun k => absurd k (by decide), fun k => absurd k (by decide), fun k => absurd k (by decide), fun k => absurd k (by decide), fun k => absurd k (by decide), fun _ => h, fun k => absurd k (by decide), fun k => absurd k (by decide)⟩
theorem Rd.ofSt (hn : NoHead T i) (h : Stops T 0 j → EL T 0 i j x) : Rd T i j x 1 :=
  ⟨fun k => absurd k (by decide), fun k => absurd k (by decide), fun k => absurd k (by decide), fun k => absurd k (by decide), fun k => absurd k (by decide), fun _ => h, fun _ hs => EE.of hn (h hs), fun _ => hn, fun k => absurd k (by decide)⟩
theorem Rd.ofR (hn : NoHead T i) (h : Stops T 1 j → EL T 1 i j x) : Rd T i j x 2 := by
  have h1 : Stops T 0 j → EL T 0 i j x := fun hs => EL.of (by decide) (h (hs.more (by omega))) (EO.stop x (hs.2 0 (Nat.le_refl _) (by omega)))
  have k := Rd.ofSt hn h1
  exact ⟨fun k => absurd k (by decide), fun k => absurd k (by decide), fun k => absurd k (by decide), fun k => absurd k (by decide), fun _ => h, fun _ => h1, fun _ => k.e (by decide), fun _ => hn, fun k => absurd k (by decide)⟩
theorem Rd.ofS (hn : NoHead T i) (h : Stops T 3 j → ∀ l y, EO T 2 j x l y → EL T 2 i l y) : Rd T i j x 3 := by
  have h1 : Stops T 1 j → EL T 1 i j x := fun hs => EL.of (by decide) (h (hs.more (by omega)) j x (EO.stop x (hs.2 2 (by omega) (by omega)))) (EO.stop x (hs.2 1 (Nat.le_refl _) (by omega)))
  have k := Rd.ofR hn h1
  exact ⟨fun k => absurd k (by decide), fun k => absurd k (by decide), fun k => absurd k (by decide), fun _ => h, fun _ => h1, fun _ => k.st (by decide), fun _ => k.e (by decide), fun _ => hn, fun k => absurd k (by decide)⟩
theorem Rd.ofM (hn : NoHead T i) (h : startsF T ⟨j, false⟩ = false → ∀ l y, EO T 3 j x l y → EL T 3 i l y) : Rd T i j x 4 := by
  have h1 : Stops T 3 j → ∀ l y, EO T 2 j x l y → EL T 2 i l y := fun hs l y ho => EL.of (by decide) (h hs.1 j x (EO.stop x (hs.2 3 (Nat.le_refl _) (by omega)))) ho
  have k := Rd.ofS hn h1
  exact ⟨fun k => absurd k (by decide), fun k => absurd k (by decide), fun _ => h, fun _ => h1, fun _ => k.r (by decide), fun _ => k.st (by decide), fun _ => k.e (by decide), fun _ => hn, fun k => absurd k (by decide)⟩
theorem Rd.ofA (hn : NoHead T i) (h : ∀ l y, EB T j x l y → EA T i l y) : Rd T i j x 5 := by
  have h1 : startsF T ⟨j, false⟩ = false → ∀ l y, EO T 3 j x l y → EL T 3 i l y := fun hs l y ho => EL.of (by decide) (EL.four (h j x (EB.stop x hs))) ho
  have k := Rd.ofM hn h1
  exact ⟨fun k => absurd k (by decide), fun _ => h, fun _ => h1, fun _ => k.s (by decide), fun _ => k.r (by decide), fun _ => k.st (by decide), fun _ => k.e (by decide), fun _ => hn, fun k => absurd k (by decide)⟩
theorem Rd.ofU (hn : NoHead T i) (hs : startsF T ⟨i, false⟩ = true) (h : EU T i j x) : Rd T i j x 6 := by
  have h1 : ∀ l y, EB T j x l y → EA T i l y := fun l y hb => EA.of h hb
  have k := Rd.ofA hn h1
  exact ⟨fun _ => h, fun _ => h1, fun _ => k.m (by decide), fun _ => k.s (by decide), fun _ => k.r (by decide), fun _ => k.st (by decide), fun _ => k.e (by decide), fun _ => hn, fun _ => hs⟩
end
theorem partN_pos' (k op : Int) : 0 ≤ partN k op := by
  unfold partN opPartN
  repeat' split
  all_goals omega
/-- Where a word stands, other than one that starts a term, or goes on. -/
theorem stops_word {T : List Tok} {j : Nat} {w : ByteArray} (h : (tel T j).k = kindW w ∧ (tel T j).s = w) (hk : kindW w = 4 ∨ kindW w = 5) (k : Nat) (hs : inF [wGet, wRef, wFst, wSnd, wRaise, wOpen] w = false) (hn : ∀ l, k ≤ l → l < 4 → inF (signsF l) w = false) : Stops T k j := by
  have ht := At.text h hk
  refine ⟨?_, fun l h1 h2 => by rw [ht]; exact hn l h1 h2⟩
  unfold startsF
  show (decide ((tel T j).k = 1 ∨ (tel T j).k = 2) || inF _ (textOf T j)) = false
  rw [ht, hs, h.1]
  rcases hk with hk | hk <;> rw [hk] <;> decide
theorem noHead_word {T : List Tok} {i : Nat} {w : ByteArray} (h : textOf T i = w) (hw : w ≠ wLet ∧ w ≠ wLetrec ∧ w ≠ wFn ∧ w ≠ wIf ∧ w ≠ wTry) : NoHead T i := by
  unfold NoHead
  rw [h]
  exact hw
theorem starts_word {T : List Tok} {i : Nat} {w : ByteArray} (h : textOf T i = w) (hw : inF [wGet, wRef, wFst, wSnd, wRaise, wOpen] w = true) : startsF T ⟨i, false⟩ = true := by
  unfold startsF
  show (decide _ || inF _ (textOf T i)) = true
  rw [h, hw, Bool.or_true]
theorem kOpen : kindW wOpen = 5 := by kernel_rfl
theorem kShut : kindW wShut = 5 := by kernel_rfl
theorem kComma : kindW wComma = 5 := by kernel_rfl
/-- How a term's own words are read. -/
def Reads (t : Tm) : Prop := ∀ T i, At T i (wordsT t) → ∃ x, sameT x t = true ∧ Rd T i (i + (wordsT t).length) x (partN t.h.k t.h.op)
/-- A kid, in brackets or not. -/
theorem kid_reads {t : Tm} (h : Reads t) {p : Int} (hp : p ≤ 6) {T : List Tok} {i : Nat} (hat : At T i (asW p (kdT t))) : ∃ x, sameT x t = true ∧ Rd T i (i + (asW p (kdT t)).length) x p := by
  unfold asW at hat ⊢
  by_cases hc : p ≤ (kdT t).1
  · rw [if_pos hc] at hat ⊢
    obtain ⟨x, h1, h2⟩ := h T i hat
    exact ⟨x, h1, h2.weaken hc⟩
  · rw [if_neg hc] at hat ⊢
    obtain ⟨h1, h2⟩ := hat.cons
    obtain ⟨h3, h4⟩ := h2.app
    obtain ⟨h5, _⟩ := h4.cons
    obtain ⟨x, hs, hr⟩ := h T (i + 1) h3
    have h5' : (tel T (i + 1 + (wordsT t).length)).k = kindW wShut ∧ (tel T (i + 1 + (wordsT t).length)).s = wShut := h5
    have hst := stops_word h5' (.inr kShut) 0 (by decide +kernel) (fun l _ hl => by
      have hh : l = 0 ∨ l = 1 ∨ l = 2 ∨ l = 3 := by omega
      rcases hh with rfl | rfl | rfl | rfl <;> decide +kernel)
    have ho := At.text h1 (.inr kOpen)
    have hu := EU.brackets ho (h1.1.trans kOpen) (hr.e (partN_pos' t.h.k t.h.op) hst) (At.text h5' (.inr kShut))
    refine ⟨x, hs, (Rd.ofU (noHead_word ho (by decide +kernel)) (starts_word ho (by decide +kernel)) ?_).weaken hp⟩
    have e : i + (wOpen :: ((kdT t).2 ++ [wShut])).length = i + 1 + (wordsT t).length + 1 := by
      show i + ((wordsT t ++ [wShut]).length + 1) = _
      rw [List.length_append, List.length_singleton]; omega
    rw [e]
    exact hu
end Show
end Go.Proofs.YtkcadkjpneoobaaGreatDoor
namespace Go.Proofs.YtkcadkjpneoobaaGreatDoor
open Go.RowKit
set_option linter.unusedVariables false
set_option linter.unusedSimpArgs false
namespace Show
open Parse
open Token (Tok tel)
open Term (Tm Hd tget wt wts okT okK sameT sameK sameH nodeB nameF argF exnF fitsB)
open Words (nameB exnB numB kwN)

/-! ### Kinds of words -/
theorem kind_name {s : ByteArray} (h : nameB s = true) : kindW s = 2 := by
  unfold kindW
  have h1 : numB s.data.toList = false := by
    cases hn : numB s.data.toList
    · rfl
    · exfalso
      have hd := (Words.numB_true hn)
      unfold nameB at h
      rw [Bool.and_eq_true] at h
      have hc := (of_decide_eq_true h.1).2.2.1
      have h0 : 0 < s.data.toList.length := List.length_pos_iff.2 hd.1
      rw [Words.el_ints _ 0 h0] at hc
      have hdd := Words.digB_all hd.2.1 _ (List.getElem_mem h0)
      have : Chars.cls ((s.data.toList[0]).toNat : Int) = 2 := (Words.digit_iff _).2 (by omega)
      rw [this] at hc
      exact absurd hc (by decide)
  rw [if_neg (by rw [h1]; simp), if_pos h]
theorem kind_exn {s : ByteArray} (h : exnB s = true) : kindW s = 3 := by
  unfold kindW
  have hc := (of_decide_eq_true h).2.2.1
  have hne := (of_decide_eq_true h).1
  have h0 : 0 < s.data.toList.length := by
    apply List.length_pos_iff.2
    intro e
    apply hne
    rw [e]; rfl
  rw [Words.el_ints _ 0 h0] at hc
  have h1 : numB s.data.toList = false := by
    cases hn : numB s.data.toList
    · rfl
    · exfalso
      have hd := (Words.numB_true hn)
      have hdd := Words.digB_all hd.2.1 _ (List.getElem_mem h0)
      have : Chars.cls ((s.data.toList[0]).toNat : Int) = 2 := (Words.digit_iff _).2 (by omega)
      rw [this] at hc
      exact absurd hc (by decide)
  have h2 : nameB s = false := by
    cases hn : nameB s
    · rfl
    · exfalso
      unfold nameB at hn
      rw [Bool.and_eq_true] at hn
      have hc2 := (of_decide_eq_true hn.1).2.2.1
      rw [Words.el_ints _ 0 h0, hc] at hc2
      exact absurd hc2 (by decide)
  rw [if_neg (by rw [h1]; simp), if_neg (by rw [h2]; simp), if_pos h]
theorem kind_digs {n : Int} (h0 : 0 ≤ n) (h1 : n ≤ 2147483647) : kindW (digs n) = 1 ∧ Words.numV (digs n).data.toList = n := by
  have e : (digs n).data.toList = Lib.itoa n := by unfold digs; simp
  obtain ⟨k1, k2⟩ := Words.num_itoa n
  rw [decide_eq_true ⟨h0, h1⟩] at k1
  rw [if_pos ⟨h0, h1⟩] at k2
  unfold kindW
  rw [e, if_pos k1]
  exact ⟨rfl, k2⟩
/-! ### The fields of a node that may be -/
structure Fields (h : Hd) : Prop where
  num : 0 ≤ h.n ∧ h.n ≤ 2147483647 ∧ (h.k ≠ 1 → h.n = 0)
  op : h.k ≠ 9 → h.op = 0
  name1 : nameF h.k = true → nameB h.name = true
  name0 : nameF h.k = false → h.name = ⟨#[]⟩
  arg1 : argF h.k = true → nameB h.arg = true
  arg0 : argF h.k = false → h.arg = ⟨#[]⟩
  exn1 : exnF h.k = true → exnB h.exn = true
  exn0 : exnF h.k = false → h.exn = ⟨#[]⟩
theorem empty_of {s : ByteArray} (h : s.size = 0) : s = ⟨#[]⟩ := by
  apply Words.bytes_ext
  have : s.data.toList.length = 0 := h
  rw [List.length_eq_zero_iff.1 this]
theorem fields {t : Tm} (h : okT t = true) : Fields t.h := by
  rw [Term.okT_eq, Bool.and_eq_true] at h
  have hn := h.1
  unfold nodeB at hn
  simp only [Bool.and_eq_true, decide_eq_true_eq] at hn
  obtain ⟨⟨_, _, hop, hnum⟩, ⟨hnm, har⟩, hex⟩ := hn
  have fit : ∀ {f : Bool} {s : ByteArray} {b : Bool}, fitsB f s b = true → (f = true → b = true) ∧ (f = false → s = ⟨#[]⟩) := by
    intro f s b hf
    unfold fitsB at hf
    cases f
    · exact ⟨fun h => by simp at h, fun _ => empty_of (by simpa using hf)⟩
    · exact ⟨fun _ => by simpa using hf, fun h => by simp at h⟩
  unfold Term.opOk at hop
  unfold Term.nOk at hnum
  exact ⟨hnum, fun h => by rw [if_neg h] at hop; exact hop, (fit hnm).1, (fit hnm).2, (fit har).1, (fit har).2, (fit hex).1, (fit hex).2⟩
theorem same_fields {h : Hd} (f : Fields h) {pl : Int} {g : Hd} {ks us : List Tm} (hg : sameH g h = true) (hl : ks.length = us.length) (hk : sameK ks us = true) : sameT (.node g ks) (.node h us) = true := same_node hg hl hk
theorem sameK1 {a x : Tm} (h : sameT a x = true) : sameK [a] [x] = true := Parse.sameK_cons h (Parse.sameK_nil [])
theorem sameK2 {a b x y : Tm} (h : sameT a x = true) (k : sameT b y = true) : sameK [a, b] [x, y] = true := Parse.sameK_cons h (sameK1 k)
theorem sameK3 {a b c x y z : Tm} (h : sameT a x = true) (k : sameT b y = true) (l : sameT c z = true) : sameK [a, b, c] [x, y, z] = true := Parse.sameK_cons h (sameK2 k l)
theorem ks_list1 {t : Tm} (h : t.ks.length = 1) : t.ks = [tget t.ks 0] := by
  match t.ks, h with
  | [a], _ => rfl
theorem ks_list2 {t : Tm} (h : t.ks.length = 2) : t.ks = [tget t.ks 0, tget t.ks 1] := by
  match t.ks, h with
  | [a, b], _ => rfl
theorem ks_list3 {t : Tm} (h : t.ks.length = 3) : t.ks = [tget t.ks 0, tget t.ks 1, tget t.ks 2] := by
  match t.ks, h with
  | [a, b, c], _ => rfl
theorem tm_eta (t : Tm) : t = .node t.h t.ks := by cases t; rfl
end Show
end Go.Proofs.YtkcadkjpneoobaaGreatDoor
namespace Go.Proofs.YtkcadkjpneoobaaGreatDoor
open Go.RowKit
set_option linter.unusedVariables false
set_option linter.unusedSimpArgs false
namespace Show
open Parse
open Token (Tok tel)
open Term (Tm Hd tget wt wts okT okK sameT sameK sameH nodeB nameF argF exnF fitsB)
open Words (nameB exnB numB kwN)

theorem kids_n {t : Tm} (hok : okT t = true) {n : Nat} (h : Term.kidsN t.h.k = n) : t.ks.length = n := by
  have := (ok_kids hok).1
  omega
theorem same_of {t : Tm} {g : Hd} {us : List Tm} (hg : sameH g t.h = true) (hl : us.length = t.ks.length) (hk : sameK us t.ks = true) : sameT (.node g us) t = true := by
  rw [tm_eta t]
  exact same_node hg hl hk
theorem starts_kind {T : List Tok} {i : Nat} (h : (tel T i).k = 1 ∨ (tel T i).k = 2) : startsF T ⟨i, false⟩ = true := by
  unfold startsF
  show (decide ((tel T i).k = 1 ∨ (tel T i).k = 2) || inF _ _) = true
  rw [decide_eq_true h]; rfl
theorem noHead_kind {T : List Tok} {i : Nat} (h : (tel T i).k = 1 ∨ (tel T i).k = 2) : NoHead T i :=
  noHead_word (text_none (by rcases h with h | h <;> rw [h] <;> decide) (by rcases h with h | h <;> rw [h] <;> decide)) (by decide +kernel)
theorem back_num {t : Tm} (hok : okT t = true) (hk : t.h.k = 1) : Reads t := by
  intro T i hat
  have f := fields hok
  have hks := kids_n (n := 0) hok (by rw [hk]; decide)
  have ew : wordsT t = [digs t.h.n] := by rw [wordsT_eq]; unfold comb; rw [if_pos hk]
  rw [ew] at hat ⊢
  obtain ⟨⟨h1, h2⟩, _⟩ := hat.cons
  obtain ⟨k1, k2⟩ := kind_digs f.num.1 f.num.2.1
  rw [k1] at h1
  have hu := EU.num h1
  rw [h2, k2] at hu
  have hp : partN t.h.k t.h.op = 6 := by rw [hk]; rfl
  refine ⟨_, ?_, hp.symm ▸ Rd.ofU (noHead_kind (.inl h1)) (starts_kind (.inl h1)) hu⟩
  refine same_of (decide_eq_true ⟨hk.symm, (f.op (by omega)).symm, rfl, ?_, ?_, ?_⟩) hks.symm (by unfold sameK; rfl)
  · exact (f.name0 (by rw [hk]; rfl)).symm
  · exact (f.arg0 (by rw [hk]; rfl)).symm
  · exact (f.exn0 (by rw [hk]; rfl)).symm
theorem back_var {t : Tm} (hok : okT t = true) (hk : t.h.k = 2) : Reads t := by
  intro T i hat
  have f := fields hok
  have hks := kids_n (n := 0) hok (by rw [hk]; decide)
  have ew : wordsT t = [t.h.name] := by rw [wordsT_eq]; unfold comb; rw [if_neg (by omega), if_pos hk]
  rw [ew] at hat ⊢
  obtain ⟨⟨h1, h2⟩, _⟩ := hat.cons
  rw [kind_name (f.name1 (by rw [hk]; rfl))] at h1
  have hu := EU.name h1
  rw [h2] at hu
  have hp : partN t.h.k t.h.op = 6 := by rw [hk]; rfl
  refine ⟨_, ?_, hp.symm ▸ Rd.ofU (noHead_kind (.inr h1)) (starts_kind (.inr h1)) hu⟩
  refine same_of (decide_eq_true ⟨hk.symm, (f.op (by omega)).symm, (f.num.2.2 (by omega)).symm, rfl, ?_, ?_⟩) hks.symm (by unfold sameK; rfl)
  · exact (f.arg0 (by rw [hk]; rfl)).symm
  · exact (f.exn0 (by rw [hk]; rfl)).symm
/-- Where a word stands that ends what goes before. -/
theorem stops_all {T : List Tok} {j : Nat} {w : ByteArray} (h : (tel T j).k = kindW w ∧ (tel T j).s = w) (hw : (kindW w = 4 ∨ kindW w = 5) ∧ inF [wGet, wRef, wFst, wSnd, wRaise, wOpen] w = false ∧ inF (signsF 0) w = false ∧ inF (signsF 1) w = false ∧ inF (signsF 2) w = false ∧ inF (signsF 3) w = false) (k : Nat) : Stops T k j :=
  stops_word h hw.1 k hw.2.1 (fun l _ hl => by
    have hh : l = 0 ∨ l = 1 ∨ l = 2 ∨ l = 3 := by omega
    rcases hh with rfl | rfl | rfl | rfl
    · exact hw.2.2.1
    · exact hw.2.2.2.1
    · exact hw.2.2.2.2.1
    · exact hw.2.2.2.2.2)
theorem back_pair {t : Tm} (hok : okT t = true) (hk : t.h.k = 3) (ih : ∀ i, i < t.ks.length → Reads (tget t.ks i)) : Reads t := by
  intro T i hat
  have f := fields hok
  have hks := kids_n (n := 2) hok (by rw [hk]; decide)
  have ew : wordsT t = wOpen :: (asW 0 (kdT (tget t.ks 0)) ++ (wComma :: (asW 0 (kdT (tget t.ks 1)) ++ [wShut]))) := by
    rw [wordsT_eq]; unfold comb twoW
    rw [if_neg (by omega), if_neg (by omega), if_pos hk, kd_get (by omega), kd_get (by omega)]
    simp
  rw [ew] at hat ⊢
  obtain ⟨ho, h1⟩ := hat.cons
  obtain ⟨hA, h2⟩ := h1.app
  obtain ⟨hc, h3⟩ := h2.cons
  obtain ⟨hB, h4⟩ := h3.app
  obtain ⟨hs, _⟩ := h4.cons
  obtain ⟨x, sx, rx⟩ := kid_reads (ih 0 (by omega)) (by decide) hA
  obtain ⟨y, sy, ry⟩ := kid_reads (ih 1 (by omega)) (by decide) hB
  have tO := At.text ho (.inr kOpen)
  have hu := EU.pair tO (ho.1.trans kOpen) (rx.e (by decide) (stops_all hc (by decide +kernel) 0)) (At.text hc (.inr kComma)) (ry.e (by decide) (stops_all hs (by decide +kernel) 0)) (At.text hs (.inr kShut))
  have hp : partN t.h.k t.h.op = 6 := by rw [hk]; rfl
  rw [hp]
  refine ⟨node 3 (plA T i) [x, y], same_of (decide_eq_true ⟨hk.symm, (f.op (by omega)).symm, (f.num.2.2 (by omega)).symm, ?_, ?_, ?_⟩) hks.symm (by rw [ks_list2 hks]; exact sameK2 sx sy), ?_⟩
  · exact (f.name0 (by rw [hk]; rfl)).symm
  · exact (f.arg0 (by rw [hk]; rfl)).symm
  · exact (f.exn0 (by rw [hk]; rfl)).symm
  · have e : i + (wOpen :: (asW 0 (kdT (tget t.ks 0)) ++ (wComma :: (asW 0 (kdT (tget t.ks 1)) ++ [wShut])))).length = i + 1 + (asW 0 (kdT (tget t.ks 0))).length + 1 + (asW 0 (kdT (tget t.ks 1))).length + 1 := by
      simp only [List.length_cons, List.length_append, List.length_nil]; omega
    rw [e]
    exact Rd.ofU (noHead_word tO (by decide +kernel)) (starts_word tO (by decide +kernel)) hu
/-- fst, snd, ref, !. -/
theorem back_pre {t : Tm} (hok : okT t = true) {m : Nat} {w : ByteArray} (hk : t.h.k = 4 + (m : Int)) (hm : m < 4) (hw : preN w = m) (hkw : kindW w = 4 ∨ kindW w = 5) (hnh : w ≠ wLet ∧ w ≠ wLetrec ∧ w ≠ wFn ∧ w ≠ wIf ∧ w ≠ wTry) (hst : inF [wGet, wRef, wFst, wSnd, wRaise, wOpen] w = true)
    (ih : ∀ i, i < t.ks.length → Reads (tget t.ks i)) (hks : t.ks.length = 1) (ew : wordsT t = w :: asW 6 (kdT (tget t.ks 0))) (hp : partN t.h.k t.h.op = 6) (h0 : nameF t.h.k = false ∧ argF t.h.k = false ∧ exnF t.h.k = false) : Reads t := by
  intro T i hat
  have f := fields hok
  rw [ew] at hat ⊢
  obtain ⟨ho, hA⟩ := hat.cons
  obtain ⟨x, sx, rx⟩ := kid_reads (ih 0 (by omega)) (by decide) hA
  have tO := At.text ho hkw
  have hu := EU.prefix (i := i) (by rw [tO, hw]; exact hm) (rx.u (by decide))
  rw [tO, hw] at hu
  refine ⟨node (4 + m) (plA T i) [x], same_of (decide_eq_true ⟨hk.symm, (f.op (by omega)).symm, (f.num.2.2 (by omega)).symm, (f.name0 h0.1).symm, (f.arg0 h0.2.1).symm, (f.exn0 h0.2.2).symm⟩) hks.symm (by rw [ks_list1 hks]; exact sameK1 sx), ?_⟩
  rw [hp]
  have e : i + (w :: asW 6 (kdT (tget t.ks 0))).length = i + 1 + (asW 6 (kdT (tget t.ks 0))).length := by
    rw [List.length_cons]; omega
  rw [e]
  exact Rd.ofU (noHead_word tO hnh) (starts_word tO hst) hu
theorem back_raise {t : Tm} (hok : okT t = true) (hk : t.h.k = 15) (ih : ∀ i, i < t.ks.length → Reads (tget t.ks i)) : Reads t := by
  intro T i hat
  have f := fields hok
  have hks := kids_n (n := 1) hok (by rw [hk]; decide)
  have ew : wordsT t = wRaise :: t.h.exn :: asW 6 (kdT (tget t.ks 0)) := by
    rw [wordsT_eq]; unfold comb
    simp only [hk, kd_get (show 0 < t.ks.length by omega)]
    rfl
  rw [ew] at hat ⊢
  obtain ⟨ho, h1⟩ := hat.cons
  obtain ⟨he, hA⟩ := h1.cons
  obtain ⟨x, sx, rx⟩ := kid_reads (ih 0 (by omega)) (by decide) hA
  have tO := At.text ho (.inl (by kernel_rfl))
  have hex := he.1.trans (kind_exn (f.exn1 (by rw [hk]; rfl)))
  have hu := EU.raise tO hex (rx.u (by decide))
  rw [he.2] at hu
  have hp : partN t.h.k t.h.op = 6 := by rw [hk]; rfl
  rw [hp]
  refine ⟨.node ⟨15, 0, plA T i, 0, ⟨#[]⟩, ⟨#[]⟩, t.h.exn⟩ [x], same_of (decide_eq_true ⟨hk.symm, (f.op (by omega)).symm, (f.num.2.2 (by omega)).symm, ?_, ?_, rfl⟩) hks.symm (by rw [ks_list1 hks]; exact sameK1 sx), ?_⟩
  · exact (f.name0 (by rw [hk]; rfl)).symm
  · exact (f.arg0 (by rw [hk]; rfl)).symm
  · have e : i + (wRaise :: t.h.exn :: asW 6 (kdT (tget t.ks 0))).length = i + 1 + 1 + (asW 6 (kdT (tget t.ks 0))).length := by
      simp only [List.length_cons]; omega
    rw [e]
    exact Rd.ofU (noHead_word tO (by decide +kernel)) (starts_word tO (by decide +kernel)) hu
end Show
end Go.Proofs.YtkcadkjpneoobaaGreatDoor
namespace Go.Proofs.YtkcadkjpneoobaaGreatDoor
open Go.RowKit
set_option linter.unusedVariables false
set_option linter.unusedSimpArgs false
namespace Show
open Parse
open Token (Tok tel)
open Term (Tm Hd tget wt wts okT okK sameT sameK sameH nodeB nameF argF exnF fitsB)
open Words (nameB exnB numB kwN)

/-- Two kids with a sign between, as they stand. -/
theorem two_at {T : List Tok} {i : Nat} {a b : Tm} {p q : Int} {w : ByteArray} (hp : p ≤ 6) (hq : q ≤ 6) (ha : Reads a) (hb : Reads b) (hat : At T i (asW p (kdT a) ++ w :: asW q (kdT b))) :
    ∃ x y j, sameT x a = true ∧ sameT y b = true ∧ Rd T i j x p ∧ ((tel T j).k = kindW w ∧ (tel T j).s = w) ∧ Rd T (j + 1) (i + (asW p (kdT a) ++ w :: asW q (kdT b)).length) y q := by
  obtain ⟨hA, h1⟩ := hat.app
  obtain ⟨hw, hB⟩ := h1.cons
  obtain ⟨x, sx, rx⟩ := kid_reads ha hp hA
  obtain ⟨y, sy, ry⟩ := kid_reads hb hq hB
  have e : i + (asW p (kdT a) ++ w :: asW q (kdT b)).length = i + (asW p (kdT a)).length + 1 + (asW q (kdT b)).length := by
    simp only [List.length_cons, List.length_append]; omega
  rw [e]
  exact ⟨x, y, _, sx, sy, rx, hw, ry⟩
theorem stops_sign {T : List Tok} {j : Nat} {w : ByteArray} (h : (tel T j).k = kindW w ∧ (tel T j).s = w) (hk : kindW w = 5) (k : Nat) (hs : inF [wGet, wRef, wFst, wSnd, wRaise, wOpen] w = false) (hn : ∀ l, l < 4 → k ≤ l → inF (signsF l) w = false) : Stops T k j :=
  stops_word h (.inr hk) k hs (fun l h1 h2 => hn l h2 h1)
theorem four_cases {P : Nat → Prop} (h0 : P 0) (h1 : P 1) (h2 : P 2) (h3 : P 3) : ∀ l, l < 4 → P l := by
  intro l hl
  have hh : l = 0 ∨ l = 1 ∨ l = 2 ∨ l = 3 := by omega
  rcases hh with rfl | rfl | rfl | rfl
  · exact h0
  · exact h1
  · exact h2
  · exact h3
theorem no_more {w : ByteArray} {k : Nat} (h : ∀ l, l < 4 → (decide (k ≤ l) && inF (signsF l) w) = false) : ∀ l, l < 4 → k ≤ l → inF (signsF l) w = false := fun l hl hk => by
  have := h l hl
  rw [decide_eq_true hk, Bool.true_and] at this
  exact this
theorem kPut : kindW wPut = 5 := by kernel_rfl
theorem kAdd : kindW wAdd = 5 := by kernel_rfl
theorem kSub : kindW wSub = 5 := by kernel_rfl
theorem kMul : kindW wMul = 5 := by kernel_rfl
theorem kLess : kindW wLess = 5 := by kernel_rfl
theorem kIs : kindW wIs = 5 := by kernel_rfl
theorem same_two {t : Tm} (hok : okT t = true) {x y : Tm} {k op : Int} {pl : Int} (hk : t.h.k = k) (ho : t.h.op = op) (hks : t.ks.length = 2) (h0 : k ≠ 1 ∧ nameF k = false ∧ argF k = false ∧ exnF k = false) (sx : sameT x (tget t.ks 0) = true) (sy : sameT y (tget t.ks 1) = true) :
    sameT (.node ⟨k, op, pl, 0, ⟨#[]⟩, ⟨#[]⟩, ⟨#[]⟩⟩ [x, y]) t = true := by
  have f := fields hok
  subst hk ho
  exact same_of (decide_eq_true ⟨rfl, rfl, (f.num.2.2 h0.1).symm, (f.name0 h0.2.1).symm, (f.arg0 h0.2.2.1).symm, (f.exn0 h0.2.2.2).symm⟩) hks.symm (by rw [ks_list2 hks]; exact sameK2 sx sy)
theorem back_set {t : Tm} (hok : okT t = true) (hk : t.h.k = 8) (ih : ∀ i, i < t.ks.length → Reads (tget t.ks i)) : Reads t := by
  intro T i hat
  have hks := kids_n (n := 2) hok (by rw [hk]; decide)
  have ew : wordsT t = asW 2 (kdT (tget t.ks 0)) ++ wPut :: asW 2 (kdT (tget t.ks 1)) := by
    rw [wordsT_eq]; unfold comb twoW
    simp only [hk, kd_get (show 0 < t.ks.length by omega), kd_get (show 1 < t.ks.length by omega)]
    rfl
  rw [ew] at hat ⊢
  obtain ⟨x, y, j, sx, sy, rx, hw, ry⟩ := two_at (by decide) (by decide) (ih 0 (by omega)) (ih 1 (by omega)) hat
  have hp : partN t.h.k t.h.op = 1 := by rw [hk]; rfl
  have tw := At.text hw (.inr kPut)
  rw [hp]
  refine ⟨.node ⟨8, 0, x.h.pl, 0, ⟨#[]⟩, ⟨#[]⟩, ⟨#[]⟩⟩ [x, y], same_two hok hk ((fields hok).op (by omega)) hks (by decide +kernel) sx sy, Rd.ofSt (rx.nh (by decide)) fun hs => ?_⟩
  have h1 := rx.r (by decide) (stops_sign hw kPut 1 (by decide +kernel) (no_more (four_cases (by decide +kernel) (by decide +kernel) (by decide +kernel) (by decide +kernel))))
  have h2 := ry.r (by decide) (hs.more (by omega))
  have ho := EO.once (a := x) (show 0 < 2 by decide) (show inF (signsF 0) (textOf T j) = true by rw [tw]; decide +kernel) h2
  rw [tw] at ho
  unfold putF at ho
  rw [show opK wPut = 8 by decide +kernel, show opO wPut = 0 by decide +kernel] at ho
  exact EL.of (by decide) h1 ho
theorem back_rel {t : Tm} (hok : okT t = true) (hk : t.h.k = 9) {o : Int} {w : ByteArray} (ho : t.h.op = o) (hsw : signW o = (3, w, 3)) (hkw : kindW w = 5) (hst : inF [wGet, wRef, wFst, wSnd, wRaise, wOpen] w = false) (hno : ∀ l, l < 4 → (decide (2 ≤ l) && inF (signsF l) w) = false) (hin : inF (signsF 1) w = true) (hpu : opK w = 9 ∧ opO w = o) (hpo : opPartN o = 2)
    (ih : ∀ i, i < t.ks.length → Reads (tget t.ks i)) : Reads t := by
  intro T i hat
  have hks := kids_n (n := 2) hok (by rw [hk]; decide)
  have ew : wordsT t = asW 3 (kdT (tget t.ks 0)) ++ w :: asW 3 (kdT (tget t.ks 1)) := by
    rw [wordsT_eq]; unfold comb twoW
    simp only [hk, ho, hsw, kd_get (show 0 < t.ks.length by omega), kd_get (show 1 < t.ks.length by omega)]
    rfl
  rw [ew] at hat ⊢
  obtain ⟨x, y, j, sx, sy, rx, hw, ry⟩ := two_at (by decide) (by decide) (ih 0 (by omega)) (ih 1 (by omega)) hat
  have hp : partN t.h.k t.h.op = 2 := by rw [hk, ho]; exact hpo
  have tw := At.text hw (.inr hkw)
  rw [hp]
  refine ⟨.node ⟨9, o, x.h.pl, 0, ⟨#[]⟩, ⟨#[]⟩, ⟨#[]⟩⟩ [x, y], same_two hok hk ho hks (by decide +kernel) sx sy, Rd.ofR (rx.nh (by decide)) fun hs => ?_⟩
  have hS := stops_sign hw hkw 2 hst (no_more hno)
  have h1 := rx.s (by decide) (hS.more (by omega)) j x (EO.stop x (hS.2 2 (Nat.le_refl _) (by omega)))
  have h2 := ry.s (by decide) (hs.more (by omega)) _ y (EO.stop y (hs.2 2 (by omega) (by omega)))
  have ho2 := EO.once (a := x) (show 1 < 2 by decide) (show inF (signsF 1) (textOf T j) = true by rw [tw]; exact hin) h2
  rw [tw] at ho2
  unfold putF at ho2
  rw [hpu.1, hpu.2] at ho2
  exact EL.of (by decide) h1 ho2
theorem back_sum {t : Tm} (hok : okT t = true) (hk : t.h.k = 9) {o : Int} {w : ByteArray} (ho : t.h.op = o) (hsw : signW o = (3, w, 4)) (hkw : kindW w = 5) (hst : inF [wGet, wRef, wFst, wSnd, wRaise, wOpen] w = false) (hno : ∀ l, l < 4 → (decide (3 ≤ l) && inF (signsF l) w) = false) (hin : inF (signsF 2) w = true) (hpu : opK w = 9 ∧ opO w = o) (hpo : opPartN o = 3)
    (ih : ∀ i, i < t.ks.length → Reads (tget t.ks i)) : Reads t := by
  intro T i hat
  have hks := kids_n (n := 2) hok (by rw [hk]; decide)
  have ew : wordsT t = asW 3 (kdT (tget t.ks 0)) ++ w :: asW 4 (kdT (tget t.ks 1)) := by
    rw [wordsT_eq]; unfold comb twoW
    simp only [hk, ho, hsw, kd_get (show 0 < t.ks.length by omega), kd_get (show 1 < t.ks.length by omega)]
    rfl
  rw [ew] at hat ⊢
  obtain ⟨x, y, j, sx, sy, rx, hw, ry⟩ := two_at (by decide) (by decide) (ih 0 (by omega)) (ih 1 (by omega)) hat
  have hp : partN t.h.k t.h.op = 3 := by rw [hk, ho]; exact hpo
  have tw := At.text hw (.inr hkw)
  rw [hp]
  refine ⟨.node ⟨9, o, x.h.pl, 0, ⟨#[]⟩, ⟨#[]⟩, ⟨#[]⟩⟩ [x, y], same_two hok hk ho hks (by decide +kernel) sx sy, Rd.ofS (rx.nh (by decide)) fun hs l z hz => ?_⟩
  have hS := stops_sign hw hkw 3 hst (no_more hno)
  have h2 := ry.m (by decide) hs.1 _ y (EO.stop y (hs.2 3 (Nat.le_refl _) (by omega)))
  refine rx.s (by decide) hS l z (EO.step (show ¬ 2 < 2 by decide) (show inF (signsF 2) (textOf T j) = true by rw [tw]; exact hin) h2 ?_)
  rw [tw]
  unfold putF
  rw [hpu.1, hpu.2]
  exact hz
theorem back_mul {t : Tm} (hok : okT t = true) (hk : t.h.k = 9) (ho : t.h.op = 3) (ih : ∀ i, i < t.ks.length → Reads (tget t.ks i)) : Reads t := by
  intro T i hat
  have hks := kids_n (n := 2) hok (by rw [hk]; decide)
  have ew : wordsT t = asW 4 (kdT (tget t.ks 0)) ++ wMul :: asW 5 (kdT (tget t.ks 1)) := by
    rw [wordsT_eq]; unfold comb twoW signW
    simp only [hk, ho, kd_get (show 0 < t.ks.length by omega), kd_get (show 1 < t.ks.length by omega)]
    rfl
  rw [ew] at hat ⊢
  obtain ⟨x, y, j, sx, sy, rx, hw, ry⟩ := two_at (by decide) (by decide) (ih 0 (by omega)) (ih 1 (by omega)) hat
  have hp : partN t.h.k t.h.op = 4 := by rw [hk, ho]; rfl
  have tw := At.text hw (.inr kMul)
  rw [hp]
  refine ⟨.node ⟨9, 3, x.h.pl, 0, ⟨#[]⟩, ⟨#[]⟩, ⟨#[]⟩⟩ [x, y], same_two hok hk ho hks (by decide +kernel) sx sy, Rd.ofM (rx.nh (by decide)) fun hs l z hz => ?_⟩
  have hS := stops_sign hw kMul 4 (by decide +kernel) (fun l h1 h2 => by omega)
  have h2 := EL.four (ry.a (by decide) _ y (EB.stop y hs))
  refine rx.m (by decide) hS.1 l z (EO.step (show ¬ 3 < 2 by decide) (show inF (signsF 3) (textOf T j) = true by rw [tw]; decide +kernel) h2 ?_)
  rw [tw]
  unfold putF
  rw [show opK wMul = 9 by decide +kernel, show opO wMul = 3 by decide +kernel]
  exact hz
theorem back_app {t : Tm} (hok : okT t = true) (hk : t.h.k = 10) (ih : ∀ i, i < t.ks.length → Reads (tget t.ks i)) : Reads t := by
  intro T i hat
  have hks := kids_n (n := 2) hok (by rw [hk]; decide)
  have ew : wordsT t = asW 5 (kdT (tget t.ks 0)) ++ asW 6 (kdT (tget t.ks 1)) := by
    rw [wordsT_eq]; unfold comb
    simp only [hk, kd_get (show 0 < t.ks.length by omega), kd_get (show 1 < t.ks.length by omega)]
    rfl
  rw [ew] at hat ⊢
  obtain ⟨hA, hB⟩ := hat.app
  obtain ⟨x, sx, rx⟩ := kid_reads (ih 0 (by omega)) (by decide) hA
  obtain ⟨y, sy, ry⟩ := kid_reads (ih 1 (by omega)) (by decide) hB
  have hp : partN t.h.k t.h.op = 5 := by rw [hk]; rfl
  have e : i + (asW 5 (kdT (tget t.ks 0)) ++ asW 6 (kdT (tget t.ks 1))).length = i + (asW 5 (kdT (tget t.ks 0))).length + (asW 6 (kdT (tget t.ks 1))).length := by
    rw [List.length_append]; omega
  rw [hp, e]
  refine ⟨node 10 x.h.pl [x, y], same_two hok hk ((fields hok).op (by omega)) hks (by decide +kernel) sx sy, Rd.ofA (rx.nh (by decide)) fun l z hz => ?_⟩
  exact rx.a (by decide) l z (EB.step (ry.su (by decide)) (ry.u (by decide)) hz)
end Show
end Go.Proofs.YtkcadkjpneoobaaGreatDoor
namespace Go.Proofs.YtkcadkjpneoobaaGreatDoor
open Go.RowKit
set_option linter.unusedVariables false
set_option linter.unusedSimpArgs false
namespace Show
open Parse
open Token (Tok tel)
open Term (Tm Hd tget wt wts okT okK sameT sameK sameH nodeB nameF argF exnF fitsB)
open Words (nameB exnB numB kwN)

theorem word_e {T : List Tok} {i : Nat} {a : Tm} (h : Reads a) (hat : At T i (wordsT a)) : ∃ x, sameT x a = true ∧ (Stops T 0 (i + (wordsT a).length) → EE T i (i + (wordsT a).length) x) := by
  obtain ⟨x, sx, rx⟩ := h T i hat
  exact ⟨x, sx, rx.e (partN_pos' _ _)⟩
theorem back_fn {t : Tm} (hok : okT t = true) (hk : t.h.k = 11) (ih : ∀ i, i < t.ks.length → Reads (tget t.ks i)) : Reads t := by
  intro T i hat
  have f := fields hok
  have hks := kids_n (n := 1) hok (by rw [hk]; decide)
  have ew : wordsT t = wFn :: t.h.arg :: wArrow :: wordsT (tget t.ks 0) := by
    rw [wordsT_eq]; unfold comb
    simp only [hk, kd_get (show 0 < t.ks.length by omega)]
    rfl
  rw [ew] at hat ⊢
  obtain ⟨h1, hat⟩ := hat.cons
  obtain ⟨h2, hat⟩ := hat.cons
  obtain ⟨h3, hat⟩ := hat.cons
  obtain ⟨x, sx, ex⟩ := word_e (ih 0 (by omega)) hat
  have hp : partN t.h.k t.h.op = 0 := by rw [hk]; rfl
  rw [hp]
  refine ⟨.node ⟨11, 0, plA T i, 0, ⟨#[]⟩, t.h.arg, ⟨#[]⟩⟩ [x], same_of (decide_eq_true ⟨hk.symm, (f.op (by omega)).symm, (f.num.2.2 (by omega)).symm, (f.name0 (by rw [hk]; rfl)).symm, rfl, (f.exn0 (by rw [hk]; rfl)).symm⟩) hks.symm (by rw [ks_list1 hks]; exact sameK1 sx), Rd.ofE fun hs => ?_⟩
  have e : i + (wFn :: t.h.arg :: wArrow :: wordsT (tget t.ks 0)).length = i + 1 + 1 + 1 + (wordsT (tget t.ks 0)).length := by
    simp only [List.length_cons]; omega
  rw [e] at hs ⊢
  have h := EE.fn (At.text h1 (.inl (by kernel_rfl))) (h2.1.trans (kind_name (f.arg1 (by rw [hk]; rfl)))) (EP.word (by decide +kernel) (At.text h3 (.inr (by kernel_rfl))) (ex hs) (EP.nil _))
  rw [h2.2] at h
  exact h
theorem back_let {t : Tm} (hok : okT t = true) (hk : t.h.k = 12) (ih : ∀ i, i < t.ks.length → Reads (tget t.ks i)) : Reads t := by
  intro T i hat
  have f := fields hok
  have hks := kids_n (n := 2) hok (by rw [hk]; decide)
  have ew : wordsT t = wLet :: t.h.name :: wIs :: (wordsT (tget t.ks 0) ++ wIn :: wordsT (tget t.ks 1)) := by
    rw [wordsT_eq]; unfold comb
    simp only [hk, kd_get (show 0 < t.ks.length by omega), kd_get (show 1 < t.ks.length by omega)]
    simp [kdT]
  rw [ew] at hat ⊢
  obtain ⟨h1, hat⟩ := hat.cons
  obtain ⟨h2, hat⟩ := hat.cons
  obtain ⟨h3, hat⟩ := hat.cons
  obtain ⟨hA, hat⟩ := hat.app
  obtain ⟨h4, hB⟩ := hat.cons
  obtain ⟨x, sx, ex⟩ := word_e (ih 0 (by omega)) hA
  obtain ⟨y, sy, ey⟩ := word_e (ih 1 (by omega)) hB
  have hp : partN t.h.k t.h.op = 0 := by rw [hk]; rfl
  rw [hp]
  refine ⟨.node ⟨12, 0, plA T i, 0, t.h.name, ⟨#[]⟩, ⟨#[]⟩⟩ [x, y], same_of (decide_eq_true ⟨hk.symm, (f.op (by omega)).symm, (f.num.2.2 (by omega)).symm, rfl, (f.arg0 (by rw [hk]; rfl)).symm, (f.exn0 (by rw [hk]; rfl)).symm⟩) hks.symm (by rw [ks_list2 hks]; exact sameK2 sx sy), Rd.ofE fun hs => ?_⟩
  have e : i + (wLet :: t.h.name :: wIs :: (wordsT (tget t.ks 0) ++ wIn :: wordsT (tget t.ks 1))).length = i + 1 + 1 + 1 + (wordsT (tget t.ks 0)).length + 1 + (wordsT (tget t.ks 1)).length := by
    simp only [List.length_cons, List.length_append]; omega
  rw [e] at hs ⊢
  have h := EE.let_ (At.text h1 (.inl (by kernel_rfl))) (h2.1.trans (kind_name (f.name1 (by rw [hk]; rfl)))) (EP.word (by decide +kernel) (At.text h3 (.inr (by kernel_rfl))) (ex (stops_all h4 (by decide +kernel) 0)) (EP.word (by decide +kernel) (At.text h4 (.inl (by kernel_rfl))) (ey hs) (EP.nil _)))
  rw [h2.2] at h
  exact h
theorem back_letrec {t : Tm} (hok : okT t = true) (hk : t.h.k = 13) (ih : ∀ i, i < t.ks.length → Reads (tget t.ks i)) : Reads t := by
  intro T i hat
  have f := fields hok
  have hks := kids_n (n := 2) hok (by rw [hk]; decide)
  have ew : wordsT t = wLetrec :: t.h.name :: t.h.arg :: wIs :: (wordsT (tget t.ks 0) ++ wIn :: wordsT (tget t.ks 1)) := by
    rw [wordsT_eq]; unfold comb
    simp only [hk, kd_get (show 0 < t.ks.length by omega), kd_get (show 1 < t.ks.length by omega)]
    simp [kdT]
  rw [ew] at hat ⊢
  obtain ⟨h1, hat⟩ := hat.cons
  obtain ⟨h2, hat⟩ := hat.cons
  obtain ⟨h5, hat⟩ := hat.cons
  obtain ⟨h3, hat⟩ := hat.cons
  obtain ⟨hA, hat⟩ := hat.app
  obtain ⟨h4, hB⟩ := hat.cons
  obtain ⟨x, sx, ex⟩ := word_e (ih 0 (by omega)) hA
  obtain ⟨y, sy, ey⟩ := word_e (ih 1 (by omega)) hB
  have hp : partN t.h.k t.h.op = 0 := by rw [hk]; rfl
  rw [hp]
  refine ⟨.node ⟨13, 0, plA T i, 0, t.h.name, t.h.arg, ⟨#[]⟩⟩ [x, y], same_of (decide_eq_true ⟨hk.symm, (f.op (by omega)).symm, (f.num.2.2 (by omega)).symm, rfl, rfl, (f.exn0 (by rw [hk]; rfl)).symm⟩) hks.symm (by rw [ks_list2 hks]; exact sameK2 sx sy), Rd.ofE fun hs => ?_⟩
  have e : i + (wLetrec :: t.h.name :: t.h.arg :: wIs :: (wordsT (tget t.ks 0) ++ wIn :: wordsT (tget t.ks 1))).length = i + 1 + 1 + 1 + 1 + (wordsT (tget t.ks 0)).length + 1 + (wordsT (tget t.ks 1)).length := by
    simp only [List.length_cons, List.length_append]; omega
  rw [e] at hs ⊢
  have h := EE.letrec (At.text h1 (.inl (by kernel_rfl))) (h2.1.trans (kind_name (f.name1 (by rw [hk]; rfl)))) (h5.1.trans (kind_name (f.arg1 (by rw [hk]; rfl)))) (EP.word (by decide +kernel) (At.text h3 (.inr (by kernel_rfl))) (ex (stops_all h4 (by decide +kernel) 0)) (EP.word (by decide +kernel) (At.text h4 (.inl (by kernel_rfl))) (ey hs) (EP.nil _)))
  have h22 : (tel T (i + 1)).s = t.h.name := h2.2
  have h55 : (tel T (i + 2)).s = t.h.arg := h5.2
  rw [h22, h55] at h
  exact h
theorem back_if {t : Tm} (hok : okT t = true) (hk : t.h.k = 14) (ih : ∀ i, i < t.ks.length → Reads (tget t.ks i)) : Reads t := by
  intro T i hat
  have f := fields hok
  have hks := kids_n (n := 3) hok (by rw [hk]; decide)
  have ew : wordsT t = wIf :: (wordsT (tget t.ks 0) ++ wThen :: (wordsT (tget t.ks 1) ++ wElse :: wordsT (tget t.ks 2))) := by
    rw [wordsT_eq]; unfold comb
    simp only [hk, kd_get (show 0 < t.ks.length by omega), kd_get (show 1 < t.ks.length by omega), kd_get (show 2 < t.ks.length by omega)]
    simp [kdT]
  rw [ew] at hat ⊢
  obtain ⟨h1, hat⟩ := hat.cons
  obtain ⟨hA, hat⟩ := hat.app
  obtain ⟨h2, hat⟩ := hat.cons
  obtain ⟨hB, hat⟩ := hat.app
  obtain ⟨h3, hC⟩ := hat.cons
  obtain ⟨x, sx, ex⟩ := word_e (ih 0 (by omega)) hA
  obtain ⟨y, sy, ey⟩ := word_e (ih 1 (by omega)) hB
  obtain ⟨z, sz, ez⟩ := word_e (ih 2 (by omega)) hC
  have hp : partN t.h.k t.h.op = 0 := by rw [hk]; rfl
  rw [hp]
  refine ⟨.node ⟨14, 0, plA T i, 0, ⟨#[]⟩, ⟨#[]⟩, ⟨#[]⟩⟩ [x, y, z], same_of (decide_eq_true ⟨hk.symm, (f.op (by omega)).symm, (f.num.2.2 (by omega)).symm, (f.name0 (by rw [hk]; rfl)).symm, (f.arg0 (by rw [hk]; rfl)).symm, (f.exn0 (by rw [hk]; rfl)).symm⟩) hks.symm (by rw [ks_list3 hks]; exact sameK3 sx sy sz), Rd.ofE fun hs => ?_⟩
  have e : i + (wIf :: (wordsT (tget t.ks 0) ++ wThen :: (wordsT (tget t.ks 1) ++ wElse :: wordsT (tget t.ks 2)))).length = i + 1 + (wordsT (tget t.ks 0)).length + 1 + (wordsT (tget t.ks 1)).length + 1 + (wordsT (tget t.ks 2)).length := by
    simp only [List.length_cons, List.length_append]; omega
  rw [e] at hs ⊢
  exact EE.if_ (At.text h1 (.inl (by kernel_rfl))) (EP.bare (ex (stops_all h2 (by decide +kernel) 0)) (EP.word (by decide +kernel) (At.text h2 (.inl (by kernel_rfl))) (ey (stops_all h3 (by decide +kernel) 0)) (EP.word (by decide +kernel) (At.text h3 (.inl (by kernel_rfl))) (ez hs) (EP.nil _))))
theorem back_try {t : Tm} (hok : okT t = true) (hk : t.h.k = 16) (ih : ∀ i, i < t.ks.length → Reads (tget t.ks i)) : Reads t := by
  intro T i hat
  have f := fields hok
  have hks := kids_n (n := 2) hok (by rw [hk]; decide)
  have ew : wordsT t = wTry :: (wordsT (tget t.ks 0) ++ wWith :: t.h.exn :: t.h.arg :: wArrow :: wordsT (tget t.ks 1)) := by
    rw [wordsT_eq]; unfold comb
    simp only [hk, kd_get (show 0 < t.ks.length by omega), kd_get (show 1 < t.ks.length by omega)]
    simp [kdT]
  rw [ew] at hat ⊢
  obtain ⟨h1, hat⟩ := hat.cons
  obtain ⟨hA, hat⟩ := hat.app
  obtain ⟨h2, hat⟩ := hat.cons
  obtain ⟨h3, hat⟩ := hat.cons
  obtain ⟨h4, hat⟩ := hat.cons
  obtain ⟨h5, hB⟩ := hat.cons
  obtain ⟨x, sx, ex⟩ := word_e (ih 0 (by omega)) hA
  obtain ⟨y, sy, ey⟩ := word_e (ih 1 (by omega)) hB
  have hp : partN t.h.k t.h.op = 0 := by rw [hk]; rfl
  rw [hp]
  refine ⟨.node ⟨16, 0, plA T i, 0, ⟨#[]⟩, t.h.arg, t.h.exn⟩ [x, y], same_of (decide_eq_true ⟨hk.symm, (f.op (by omega)).symm, (f.num.2.2 (by omega)).symm, (f.name0 (by rw [hk]; rfl)).symm, rfl, rfl⟩) hks.symm (by rw [ks_list2 hks]; exact sameK2 sx sy), Rd.ofE fun hs => ?_⟩
  have e : i + (wTry :: (wordsT (tget t.ks 0) ++ wWith :: t.h.exn :: t.h.arg :: wArrow :: wordsT (tget t.ks 1))).length = i + 1 + (wordsT (tget t.ks 0)).length + 1 + 1 + 1 + 1 + (wordsT (tget t.ks 1)).length := by
    simp only [List.length_cons, List.length_append]; omega
  rw [e] at hs ⊢
  have h := EE.try_ (At.text h1 (.inl (by kernel_rfl))) (EP.bare (ex (stops_all h2 (by decide +kernel) 0)) (EP.nil _)) (At.text h2 (.inl (by kernel_rfl))) (h3.1.trans (kind_exn (f.exn1 (by rw [hk]; rfl)))) (h4.1.trans (kind_name (f.arg1 (by rw [hk]; rfl)))) (EP.word (by decide +kernel) (At.text h5 (.inr (by kernel_rfl))) (ey hs) (EP.nil _))
  have h33 : (tel T (i + 1 + (wordsT (tget t.ks 0)).length + 1)).s = t.h.exn := h3.2
  have h44 : (tel T (i + 1 + (wordsT (tget t.ks 0)).length + 2)).s = t.h.arg := h4.2
  rw [h33, h44] at h
  exact h
/-- ALL TERMS THAT MAY BE. -/
theorem reads_all : ∀ m : Nat, ∀ t : Tm, wt t ≤ m → okT t = true → Reads t := by
  intro m
  induction m with
  | zero => intro t h; have := Term.wt_pos t; omega
  | succ m ihm =>
    intro t hm hok
    have ih : ∀ i, i < t.ks.length → Reads (tget t.ks i) := fun i hi => ihm _ (kid_wt hi hm) (kid_ok hi hok)
    have hkk := okT_kind hok
    have hh : t.h.k = 1 ∨ t.h.k = 2 ∨ t.h.k = 3 ∨ t.h.k = 4 ∨ t.h.k = 5 ∨ t.h.k = 6 ∨ t.h.k = 7 ∨ t.h.k = 8 ∨ t.h.k = 9 ∨ t.h.k = 10 ∨ t.h.k = 11 ∨ t.h.k = 12 ∨ t.h.k = 13 ∨ t.h.k = 14 ∨ t.h.k = 15 ∨ t.h.k = 16 := by omega
    have pre : ∀ (k : Int) (w : ByteArray), t.h.k = k → Term.kidsN k = 1 → (∀ ks, comb t.h ks = w :: asW 6 (kd ks 0)) → wordsT t = w :: asW 6 (kdT (tget t.ks 0)) ∧ t.ks.length = 1 := by
      intro k w hk h1 hc
      have hks := kids_n (n := 1) hok (by rw [hk]; exact h1)
      exact ⟨by rw [wordsT_eq, hc, kd_get (by omega)], hks⟩
    rcases hh with h | h | h | h | h | h | h | h | h | h | h | h | h | h | h | h
    · exact back_num hok h
    · exact back_var hok h
    · exact back_pair hok h ih
    · obtain ⟨e1, e2⟩ := pre 4 wFst h (by decide) (fun ks => by unfold comb; simp [h])
      exact back_pre (m := 0) hok h (by decide) (by decide +kernel) (.inl (by kernel_rfl)) (by decide +kernel) (by decide +kernel) ih e2 e1 (by rw [h]; rfl) (by rw [h]; decide)
    · obtain ⟨e1, e2⟩ := pre 5 wSnd h (by decide) (fun ks => by unfold comb; simp [h])
      exact back_pre (m := 1) hok h (by decide) (by decide +kernel) (.inl (by kernel_rfl)) (by decide +kernel) (by decide +kernel) ih e2 e1 (by rw [h]; rfl) (by rw [h]; decide)
    · obtain ⟨e1, e2⟩ := pre 6 wRef h (by decide) (fun ks => by unfold comb; simp [h])
      exact back_pre (m := 2) hok h (by decide) (by decide +kernel) (.inl (by kernel_rfl)) (by decide +kernel) (by decide +kernel) ih e2 e1 (by rw [h]; rfl) (by rw [h]; decide)
    · obtain ⟨e1, e2⟩ := pre 7 wGet h (by decide) (fun ks => by unfold comb; simp [h])
      exact back_pre (m := 3) hok h (by decide) (by decide +kernel) (.inr (by kernel_rfl)) (by decide +kernel) (by decide +kernel) ih e2 e1 (by rw [h]; rfl) (by rw [h]; decide)
    · exact back_set hok h ih
    · have hop := (ok_kids hok).2.2
      unfold Term.opOk at hop
      rw [if_pos h] at hop
      have ho : t.h.op = 1 ∨ t.h.op = 2 ∨ t.h.op = 3 ∨ t.h.op = 4 ∨ t.h.op = 5 := by omega
      rcases ho with ho | ho | ho | ho | ho
      · exact back_sum hok h ho rfl kAdd (by decide +kernel) (four_cases (by decide +kernel) (by decide +kernel) (by decide +kernel) (by decide +kernel)) (by decide +kernel) (by decide +kernel) rfl ih
      · exact back_sum hok h ho rfl kSub (by decide +kernel) (four_cases (by decide +kernel) (by decide +kernel) (by decide +kernel) (by decide +kernel)) (by decide +kernel) (by decide +kernel) rfl ih
      · exact back_mul hok h ho ih
      · exact back_rel hok h ho rfl kLess (by decide +kernel) (four_cases (by decide +kernel) (by decide +kernel) (by decide +kernel) (by decide +kernel)) (by decide +kernel) (by decide +kernel) rfl ih
      · exact back_rel hok h ho rfl kIs (by decide +kernel) (four_cases (by decide +kernel) (by decide +kernel) (by decide +kernel) (by decide +kernel)) (by decide +kernel) (by decide +kernel) rfl ih
    · exact back_app hok h ih
    · exact back_fn hok h ih
    · exact back_let hok h ih
    · exact back_letrec hok h ih
    · exact back_if hok h ih
    · exact back_raise hok h ih
    · exact back_try hok h ih
end Show
end Go.Proofs.YtkcadkjpneoobaaGreatDoor
namespace Go.Proofs.YtkcadkjpneoobaaGreatDoor
open Go.RowKit
set_option linter.unusedVariables false
set_option linter.unusedSimpArgs false
namespace Show
open Parse
open Token (Tok tel jb lex lex_tok lex_blank lex_nil pieceN pieceK tokAt pre endT letK digK)
open Term (Tm Hd tget wt wts okT okK sameT sameK sameH nodeB nameF argF exnF fitsB)
open Words (nameB exnB numB kwN ints run_iff kwT)
open Chars (cls el run isin)

/-- A word that is one token of its kind. -/
def SelfW (w : ByteArray) : Prop := ints w.data.toList ≠ [] ∧ pieceN (ints w.data.toList) = (ints w.data.toList).length ∧ pieceK (ints w.data.toList) = kindW w ∧ kindW w ≠ 0
instance (w : ByteArray) : Decidable (SelfW w) := by unfold SelfW; infer_instance
theorem self_const {w : ByteArray} (h : w ∈ wordsL) : SelfW w := (show ∀ w ∈ wordsL, SelfW w by decide +kernel) w h
theorem ints_str' (s : ByteArray) : strOfNums (ints s.data.toList) = s := by
  apply Words.bytes_ext
  unfold strOfNums ints
  simp only [List.map_map]
  have : (fun n : Int => UInt8.ofNat n.toNat) ∘ (fun c : UInt8 => (c.toNat : Int)) = id := by
    funext c
    simp
  rw [this, List.map_id]
theorem no_kw {s : ByteArray} (h : exnB s = true) : kwN s.data.toList = 0 := by
  refine Words.kwN_miss s (fun j hj e => ?_)
  have hk : ∀ j, j < 14 → exnB (kwT j) = false := by decide +kernel
  rw [← e, hk j hj] at h
  cases h
theorem self_word {s : ByteArray} {f : Int} (hf : f = 3 ∨ f = 4) (h : Words.wordB f (ints s.data.toList) = true) : ints s.data.toList ≠ [] ∧ pieceN (ints s.data.toList) = (ints s.data.toList).length ∧ pieceK (ints s.data.toList) = letK s := by
  obtain ⟨h0, _, h2, h3⟩ := of_decide_eq_true h
  have hr : run [3, 4, 2] (ints s.data.toList) = (ints s.data.toList).length := (run_iff _ _).2 h3
  refine ⟨h0, ?_, ?_⟩
  · unfold pieceN
    rw [h2, if_neg (by omega), if_pos hf, hr]
  · unfold pieceK
    rw [h2, if_neg (by omega), if_pos hf, hr, List.take_length, ints_str']
theorem self_name {s : ByteArray} (h : nameB s = true) : SelfW s := by
  have hk := kind_name h
  have h' := h
  unfold nameB at h'
  rw [Bool.and_eq_true] at h'
  obtain ⟨h1, h2, h3⟩ := self_word (.inl rfl) h'.1
  refine ⟨h1, h2, ?_, by rw [hk]; decide⟩
  rw [h3, hk]
  unfold letK
  rw [if_neg (by rw [of_decide_eq_true h'.2]; decide), if_pos h]
theorem self_exn {s : ByteArray} (h : exnB s = true) : SelfW s := by
  have hk := kind_exn h
  obtain ⟨h1, h2, h3⟩ := self_word (.inr rfl) h
  refine ⟨h1, h2, ?_, by rw [hk]; decide⟩
  rw [h3, hk]
  unfold letK
  have hn : nameB s = false := by
    cases hn : nameB s
    · rfl
    · exfalso
      have := kind_name hn
      rw [hk] at this
      exact absurd this (by decide)
  rw [if_neg (by rw [no_kw h]; decide), if_neg (by rw [hn]; simp), if_pos h]
theorem self_digs {n : Int} (h0 : 0 ≤ n) (h1 : n ≤ 2147483647) : SelfW (digs n) := by
  have hk := (kind_digs h0 h1).1
  have hn : numB (digs n).data.toList = true := by
    unfold kindW at hk
    split at hk
    · assumption
    · split at hk
      · exact absurd hk (by decide)
      · split at hk
        · exact absurd hk (by decide)
        · split at hk <;> exact absurd hk (by decide)
  obtain ⟨hne, hd, _⟩ := Words.numB_true hn
  have hall : ∀ x ∈ ints (digs n).data.toList, isin [2] (cls x) = true := by
    have := Words.digB_allB (digs n).data.toList
    rw [hd] at this
    exact of_decide_eq_true this
  have hi : ints (digs n).data.toList ≠ [] := by
    intro e
    apply hne
    unfold ints at e
    simpa using e
  have hr : run [2] (ints (digs n).data.toList) = (ints (digs n).data.toList).length := (run_iff _ _).2 hall
  have hc : cls (el (ints (digs n).data.toList) 0) = 2 := by
    have := hall _ (Chars.el_mem (List.length_pos_iff.2 hi))
    unfold isin at this
    simpa using this
  refine ⟨hi, ?_, ?_, by rw [hk]; decide⟩
  · unfold pieceN; rw [if_pos hc, hr]
  · unfold pieceK
    rw [if_pos hc, hr, List.take_length, ints_str', hk]
    unfold digK
    rw [if_pos hn]
def AllP (ss : List ByteArray) : Prop := ∀ s ∈ ss, SelfW s
theorem AllP.append {a b : List ByteArray} (h : AllP a) (k : AllP b) : AllP (a ++ b) := fun s hs => by
  rcases List.mem_append.1 hs with hs | hs
  · exact h s hs
  · exact k s hs
theorem AllP.cons {x : ByteArray} {a : List ByteArray} (hx : SelfW x) (h : AllP a) : AllP (x :: a) := fun s hs => by
  rcases List.mem_cons.1 hs with rfl | hs
  · exact hx
  · exact h s hs
theorem AllP.nil : AllP [] := fun s hs => by cases hs
theorem asW_all {p : Int} {x : Int × List ByteArray} (h : AllP x.2) : AllP (asW p x) := by
  unfold asW
  split
  · exact h
  · exact (AllP.cons (self_const (by simp [wordsL])) (h.append (AllP.cons (self_const (by simp [wordsL])) AllP.nil)))
theorem kd_all {ts : List Tm} (h : ∀ i, i < ts.length → AllP (wordsT (tget ts i))) (i : Nat) : AllP (kd (wordsK ts) i).2 := by
  by_cases hi : i < ts.length
  · rw [kd_get hi]; exact h i hi
  · unfold kd
    rw [wordsK_map, List.getD_eq_getElem?_getD, List.getElem?_map, List.getElem?_eq_none (by omega)]
    exact AllP.nil
theorem words_all : ∀ m : Nat, ∀ t : Tm, wt t ≤ m → okT t = true → AllP (wordsT t) := by
  intro m
  induction m with
  | zero => intro t h; have := Term.wt_pos t; omega
  | succ m ih =>
    intro t hm hok
    have hkd := kd_all (ts := t.ks) (fun i hi => ih _ (kid_wt hi hm) (kid_ok hi hok))
    have hno := hok
    rw [Term.okT_eq, Bool.and_eq_true] at hno
    have hn := hno.1
    unfold Term.nodeB at hn
    simp only [Bool.and_eq_true, decide_eq_true_eq] at hn
    obtain ⟨⟨_, _, _, hnum⟩, ⟨hnm, har⟩, hex⟩ := hn
    unfold Term.nOk at hnum
    have s0 : ∀ p, AllP (asW p (kd (wordsK t.ks) 0)) := fun p => asW_all (hkd 0)
    have s1 : ∀ p, AllP (asW p (kd (wordsK t.ks) 1)) := fun p => asW_all (hkd 1)
    have nm : Term.nameF t.h.k = true → SelfW t.h.name := fun h => by unfold Term.fitsB at hnm; rw [if_pos h] at hnm; exact self_name hnm
    have ar : Term.argF t.h.k = true → SelfW t.h.arg := fun h => by unfold Term.fitsB at har; rw [if_pos h] at har; exact self_name har
    have ex : Term.exnF t.h.k = true → SelfW t.h.exn := fun h => by unfold Term.fitsB at hex; rw [if_pos h] at hex; exact self_exn hex
    have hkk := okT_kind hok
    have two : ∀ a s b, SelfW s → AllP (twoW (wordsK t.ks) a s b) := fun a s b hs => (s0 a).append (AllP.cons hs (s1 b))
    rw [wordsT_eq]
    unfold comb
    by_cases h1 : t.h.k = 1; · rw [if_pos h1]; exact AllP.cons (self_digs hnum.1 hnum.2.1) AllP.nil
    rw [if_neg h1]
    by_cases h2 : t.h.k = 2; · rw [if_pos h2]; exact AllP.cons (nm (by rw [h2]; rfl)) AllP.nil
    rw [if_neg h2]
    by_cases h3 : t.h.k = 3; · rw [if_pos h3]; exact AllP.cons (self_const (by simp [wordsL])) ((two _ _ _ (self_const (by simp [wordsL]))).append (AllP.cons (self_const (by simp [wordsL])) AllP.nil))
    rw [if_neg h3]
    by_cases h4 : t.h.k = 4; · rw [if_pos h4]; exact AllP.cons (self_const (by simp [wordsL])) (s0 _)
    rw [if_neg h4]
    by_cases h5 : t.h.k = 5; · rw [if_pos h5]; exact AllP.cons (self_const (by simp [wordsL])) (s0 _)
    rw [if_neg h5]
    by_cases h6 : t.h.k = 6; · rw [if_pos h6]; exact AllP.cons (self_const (by simp [wordsL])) (s0 _)
    rw [if_neg h6]
    by_cases h7 : t.h.k = 7; · rw [if_pos h7]; exact AllP.cons (self_const (by simp [wordsL])) (s0 _)
    rw [if_neg h7]
    by_cases h8 : t.h.k = 8; · rw [if_pos h8]; exact two _ _ _ (self_const (by simp [wordsL]))
    rw [if_neg h8]
    by_cases h9 : t.h.k = 9
    · rw [if_pos h9]
      refine two _ _ _ ?_
      unfold signW
      repeat' split
      all_goals exact self_const (by simp [wordsL])
    rw [if_neg h9]
    by_cases h10 : t.h.k = 10; · rw [if_pos h10]; exact (s0 _).append (s1 _)
    rw [if_neg h10]
    by_cases h11 : t.h.k = 11; · rw [if_pos h11]; exact (AllP.cons (self_const (by simp [wordsL])) (AllP.cons (ar (by rw [h11]; rfl)) (AllP.cons (self_const (by simp [wordsL])) AllP.nil))).append (hkd 0)
    rw [if_neg h11]
    by_cases h12 : t.h.k = 12; · rw [if_pos h12]; exact ((AllP.cons (self_const (by simp [wordsL])) (AllP.cons (nm (by rw [h12]; rfl)) (AllP.cons (self_const (by simp [wordsL])) AllP.nil))).append (hkd 0)).append (AllP.cons (self_const (by simp [wordsL])) (hkd 1))
    rw [if_neg h12]
    by_cases h13 : t.h.k = 13; · rw [if_pos h13]; exact ((AllP.cons (self_const (by simp [wordsL])) (AllP.cons (nm (by rw [h13]; rfl)) (AllP.cons (ar (by rw [h13]; rfl)) (AllP.cons (self_const (by simp [wordsL])) AllP.nil)))).append (hkd 0)).append (AllP.cons (self_const (by simp [wordsL])) (hkd 1))
    rw [if_neg h13]
    by_cases h14 : t.h.k = 14; · rw [if_pos h14]; exact AllP.cons (self_const (by simp [wordsL])) ((hkd 0).append (AllP.cons (self_const (by simp [wordsL])) ((hkd 1).append (AllP.cons (self_const (by simp [wordsL])) (hkd 2)))))
    rw [if_neg h14]
    by_cases h15 : t.h.k = 15; · rw [if_pos h15]; exact (AllP.cons (self_const (by simp [wordsL])) (AllP.cons (ex (by rw [h15]; rfl)) AllP.nil)).append (s0 _)
    rw [if_neg h15]
    have h16 : t.h.k = 16 := by omega
    exact AllP.cons (self_const (by simp [wordsL])) ((hkd 0).append ((AllP.cons (self_const (by simp [wordsL])) (AllP.cons (ex (by rw [h16]; rfl)) (AllP.cons (ar (by rw [h16]; rfl)) (AllP.cons (self_const (by simp [wordsL])) AllP.nil)))).append (hkd 1)))

theorem ints_app (a b : List UInt8) : ints (a ++ b) = ints a ++ ints b := by unfold ints; rw [List.map_append]
theorem lexIs_one {w : ByteArray} (h : SelfW w) : LexIs (ints w.data.toList) [(kindW w, w)] := by
  intro a
  obtain ⟨h0, h1, h2, h3⟩ := h
  refine ⟨[tokAt (ints w.data.toList) a], ?_, ?_⟩
  · rw [lex_tok _ a h0 (by rw [h2]; exact h3), h1, List.drop_length, lex_nil]
    rfl
  · unfold ks tokAt
    rw [h1, h2, List.take_length, ints_str']
    rfl
theorem lexIs_blank {zs : List Int} {m : List (Int × ByteArray)} (k : LexIs zs m) : LexIs (32 :: zs) m := by
  intro a
  obtain ⟨vs, k1, k2⟩ := k (a + 1)
  refine ⟨vs, ?_, k2⟩
  rw [lex_blank (32 :: zs) a (by simp) (show cls 32 = 1 by decide +kernel)]
  exact k1
/-- Words, blanks between them, are cut into themselves. -/
theorem lexIs_words : ∀ ws : List ByteArray, ws ≠ [] → AllP ws → LexIs (ints (bl (jb ws))) (ws.map fun w => (kindW w, w))
  | [], h, _ => absurd rfl h
  | [w], _, h => by
    rw [bl_one]
    exact lexIs_one (h w (by simp))
  | w :: v :: ws, _, h => by
    rw [bl_cons (by simp), ints_app]
    have ih := lexIs_words (v :: ws) (by simp) (fun s hs => h s (List.mem_cons_of_mem _ hs))
    have hb : LexIs (ints (32 :: bl (jb (v :: ws)))) ((v :: ws).map fun w => (kindW w, w)) := lexIs_blank ih
    have hz : Token.Halt (ints (32 :: bl (jb (v :: ws)))) := by
      right
      have e0 : el (ints (32 :: bl (jb (v :: ws)))) 0 = 32 := rfl
      rw [e0]
      decide +kernel
    exact lexIs_app (lexIs_one (h w (by simp))) hz hb
/-- THERE AND BACK. -/
theorem show_back {t : Tm} (hok : okT t = true) (hw : wt t ≤ 400) : ∃ x, termRes (ints (bl (jb (wordsT t)))) = .good x ∧ sameT x t = true := by
  have hne := words_nil hok
  obtain ⟨us, hlu, hku⟩ := lexIs_words (wordsT t) hne (words_all _ t (Nat.le_refl _) hok) 0
  have hwl := words_le hok
  have hsz := jb_size (wordsT t) (words_short _ t (Nat.le_refl _) hok)
  have hil : (ints (bl (jb (wordsT t)))).length = (jb (wordsT t)).size := by rw [Words.ints_length]; rfl
  have hul : us.length = (wordsT t).length := by
    have := congrArg List.length hku
    rw [ks_len, List.length_map] at this
    exact this
  have hat : At (us ++ [endT (ints (bl (jb (wordsT t)))).length]) 0 (wordsT t) := by
    intro j hj
    obtain ⟨h1, h2⟩ := tel_kat (us := [endT (ints (bl (jb (wordsT t)))).length]) (show j < us.length by omega)
    have hk : kat (ks us) j = (kindW ((wordsT t).getD j ⟨#[]⟩), (wordsT t).getD j ⟨#[]⟩) := by
      rw [hku]
      unfold kat
      rw [List.getD_eq_getElem?_getD, List.getElem?_map, List.getElem?_eq_getElem hj, List.getD_eq_getElem?_getD, List.getElem?_eq_getElem hj]
      rfl
    rw [hk] at h1 h2
    rw [Nat.zero_add]
    exact ⟨h1, h2⟩
  have hend : (tel (us ++ [endT (ints (bl (jb (wordsT t)))).length]) (0 + (wordsT t).length)).k = 6 := by
    rw [Nat.zero_add, ← hul, tel_end]; rfl
  obtain ⟨x, sx, rx⟩ := reads_all _ t (Nat.le_refl _) hok _ 0 hat
  have he := rx.e (partN_pos' _ _) (stops_end hend 0)
  refine ⟨x, ?_, sx⟩
  unfold termRes
  rw [if_neg (by omega), hlu]
  show toksRes us _ = _
  unfold toksRes
  rw [if_neg (by omega)]
  obtain ⟨r, hr⟩ := enough0 (good_of_lex hlu).row
  have e := he.det hr
  rw [hr, e]
  exact if_pos ⟨rfl, hend⟩
end Show
end Go.Proofs.YtkcadkjpneoobaaGreatDoor
