/-The document's reading of tokens: mathematics. The document's reading of tokens: it stays within the row. The document's reading of tokens: enough fuel. Tokens that cutting makes: which texts they have; a token that is no word and no sign has no word's text. -/
import Derived.Test.YtadpjkehflokcaaGreatDoorGTokA
import Derived.Test.YtadpjkehflokcaaGreatDoorGTermA
namespace Go.Proofs.YtadpjkehflokcaaGreatDoor
open Go.RowKit
set_option linter.unusedVariables false
namespace Parse
open Token (Tok tel)
open Term (Tm Hd)

/-- The next token's place, and whether one couldn't stand. -/
structure St where
  i : Nat
  bad : Bool
def e0 : ByteArray := ⟨#[]⟩
def wLet : ByteArray := ⟨#[108, 101, 116]⟩
def wLetrec : ByteArray := ⟨#[108, 101, 116, 114, 101, 99]⟩
def wIn : ByteArray := ⟨#[105, 110]⟩
def wFn : ByteArray := ⟨#[102, 110]⟩
def wIf : ByteArray := ⟨#[105, 102]⟩
def wThen : ByteArray := ⟨#[116, 104, 101, 110]⟩
def wElse : ByteArray := ⟨#[101, 108, 115, 101]⟩
def wRaise : ByteArray := ⟨#[114, 97, 105, 115, 101]⟩
def wTry : ByteArray := ⟨#[116, 114, 121]⟩
def wWith : ByteArray := ⟨#[119, 105, 116, 104]⟩
def wRef : ByteArray := ⟨#[114, 101, 102]⟩
def wFst : ByteArray := ⟨#[102, 115, 116]⟩
def wSnd : ByteArray := ⟨#[115, 110, 100]⟩
def wExn : ByteArray := ⟨#[101, 120, 110]⟩
def wIs : ByteArray := ⟨#[61]⟩
def wArrow : ByteArray := ⟨#[61, 62]⟩
def wPut : ByteArray := ⟨#[58, 61]⟩
def wLess : ByteArray := ⟨#[60]⟩
def wAdd : ByteArray := ⟨#[43]⟩
def wSub : ByteArray := ⟨#[45]⟩
def wMul : ByteArray := ⟨#[42]⟩
def wGet : ByteArray := ⟨#[33]⟩
def wOpen : ByteArray := ⟨#[40]⟩
def wShut : ByteArray := ⟨#[41]⟩
def wComma : ByteArray := ⟨#[44]⟩
def wSemi : ByteArray := ⟨#[59]⟩

section
variable (ts : List Tok)
/-- The word or sign that stands next; none. -/
def textOf (i : Nat) : ByteArray := if (tel ts i).k = 4 ∨ (tel ts i).k = 5 then (tel ts i).s else ⟨#[]⟩
def wantF (s : St) (w : ByteArray) : St := if s.bad = true ∨ textOf ts s.i ≠ w then ⟨s.i, true⟩ else ⟨s.i + 1, false⟩
def getF (s : St) (k : Int) : St := if s.bad = true ∨ (tel ts s.i).k ≠ k then ⟨s.i, true⟩ else ⟨s.i + 1, false⟩
def getS (s : St) (k : Int) : ByteArray := if s.bad = true ∨ (tel ts s.i).k ≠ k then ⟨#[]⟩ else (tel ts s.i).s
def node (k : Int) (a : Int) (ks : List Tm) : Tm := .node ⟨k, 0, a, 0, ⟨#[]⟩, ⟨#[]⟩, ⟨#[]⟩⟩ ks
def zeroT : Tm := .node ⟨0, 0, 0, 0, ⟨#[]⟩, ⟨#[]⟩, ⟨#[]⟩⟩ []
def signsF (k : Nat) : List ByteArray := if k = 0 then [wPut] else if k = 1 then [wLess, wIs] else if k = 2 then [wAdd, wSub] else [wMul]
def inF (l : List ByteArray) (x : ByteArray) : Bool := l.any fun y => decide (y = x)
def opK (w : ByteArray) : Int := if w = wPut then 8 else 9
def opO (w : ByteArray) : Int := if w = wPut then 0 else if w = wAdd then 1 else if w = wSub then 2 else if w = wMul then 3 else if w = wLess then 4 else if w = wIs then 5 else 0
/-- Two terms with a sign between them. -/
def putF (w : ByteArray) (a b : Tm) : Tm := .node ⟨opK w, opO w, a.h.pl, 0, ⟨#[]⟩, ⟨#[]⟩, ⟨#[]⟩⟩ [a, b]
def startsF (s : St) : Bool := decide ((tel ts s.i).k = 1 ∨ (tel ts s.i).k = 2) || inF [wGet, wRef, wFst, wSnd, wRaise, wOpen] (textOf ts s.i)
/-- Which of fst, snd, ref, ! it is; 4: none. -/
def preN (w : ByteArray) : Nat := if w = wFst then 0 else if w = wSnd then 1 else if w = wRef then 2 else if w = wGet then 3 else 4
def plA (i : Nat) : Int := ((tel ts i).a : Int)

mutual
def exprF : Nat → St → Option (St × Tm)
  | 0, _ => none
  | n + 1, s =>
    if s.bad = true then some (s, zeroT) else
    if textOf ts s.i = wLet then
      (partsF n [wIs, wIn] (getF ts (wantF ts s wLet) 2)).map fun r => (r.1, .node ⟨12, 0, plA ts s.i, 0, getS ts (wantF ts s wLet) 2, ⟨#[]⟩, ⟨#[]⟩⟩ r.2)
    else if textOf ts s.i = wLetrec then
      (partsF n [wIs, wIn] (getF ts (getF ts (wantF ts s wLetrec) 2) 2)).map fun r => (r.1, .node ⟨13, 0, plA ts s.i, 0, getS ts (wantF ts s wLetrec) 2, getS ts (getF ts (wantF ts s wLetrec) 2) 2, ⟨#[]⟩⟩ r.2)
    else if textOf ts s.i = wFn then
      (partsF n [wArrow] (getF ts (wantF ts s wFn) 2)).map fun r => (r.1, .node ⟨11, 0, plA ts s.i, 0, ⟨#[]⟩, getS ts (wantF ts s wFn) 2, ⟨#[]⟩⟩ r.2)
    else if textOf ts s.i = wIf then
      (partsF n [e0, wThen, wElse] (wantF ts s wIf)).map fun r => (r.1, .node ⟨14, 0, plA ts s.i, 0, ⟨#[]⟩, ⟨#[]⟩, ⟨#[]⟩⟩ r.2)
    else if textOf ts s.i = wTry then
      (partsF n [e0] (wantF ts s wTry)).bind fun r =>
        (partsF n [wArrow] (getF ts (getF ts (wantF ts r.1 wWith) 3) 2)).map fun q => (q.1, .node ⟨16, 0, plA ts s.i, 0, ⟨#[]⟩, getS ts (getF ts (wantF ts r.1 wWith) 3) 2, getS ts (wantF ts r.1 wWith) 3⟩ (r.2 ++ q.2))
    else levelF n 0 s
def partsF : Nat → List ByteArray → St → Option (St × List Tm)
  | 0, _, _ => none
  | n + 1, [], s => some (s, [])
  | n + 1, w :: ws, s => (exprF n (if w = e0 then s else wantF ts s w)).bind fun r => (partsF n ws r.1).map fun q => (q.1, r.2 :: q.2)
def levelF : Nat → Nat → St → Option (St × Tm)
  | 0, _, _ => none
  | n + 1, k, s => if k = 4 then applyF n s else (levelF n (k + 1) s).bind fun r => loopF n k r.1 r.2
def loopF : Nat → Nat → St → Tm → Option (St × Tm)
  | 0, _, _, _ => none
  | n + 1, k, s, a =>
    if s.bad = false ∧ inF (signsF k) (textOf ts s.i) = true then
      (levelF n (k + 1) ⟨s.i + 1, s.bad⟩).bind fun r => if k < 2 then some (r.1, putF (textOf ts s.i) a r.2) else loopF n k r.1 (putF (textOf ts s.i) a r.2)
    else some (s, a)
def applyF : Nat → St → Option (St × Tm)
  | 0, _ => none
  | n + 1, s => (unaryF n s).bind fun r => aloopF n r.1 r.2
def aloopF : Nat → St → Tm → Option (St × Tm)
  | 0, _, _ => none
  | n + 1, s, a =>
    if s.bad = false ∧ startsF ts s = true then (unaryF n s).bind fun r => aloopF n r.1 (node 10 a.h.pl [a, r.2]) else some (s, a)
def unaryF : Nat → St → Option (St × Tm)
  | 0, _ => none
  | n + 1, s =>
    if s.bad = true then some (s, zeroT) else
    if preN (textOf ts s.i) < 4 then (unaryF n ⟨s.i + 1, s.bad⟩).map fun r => (r.1, node (4 + preN (textOf ts s.i)) (plA ts s.i) [r.2])
    else if textOf ts s.i = wRaise then
      (unaryF n (getF ts ⟨s.i + 1, s.bad⟩ 3)).map fun r => (r.1, .node ⟨15, 0, plA ts s.i, 0, ⟨#[]⟩, ⟨#[]⟩, getS ts ⟨s.i + 1, s.bad⟩ 3⟩ [r.2])
    else if (tel ts s.i).k = 1 then some (⟨s.i + 1, s.bad⟩, .node ⟨1, 0, plA ts s.i, Words.numV (tel ts s.i).s.data.toList, ⟨#[]⟩, ⟨#[]⟩, ⟨#[]⟩⟩ [])
    else if (tel ts s.i).k = 2 then some (⟨s.i + 1, s.bad⟩, .node ⟨2, 0, plA ts s.i, 0, (tel ts s.i).s, ⟨#[]⟩, ⟨#[]⟩⟩ [])
    else (exprF n (wantF ts s wOpen)).bind fun r =>
      if r.1.bad = true ∨ textOf ts r.1.i ≠ wComma then some (wantF ts r.1 wShut, r.2)
      else (exprF n ⟨r.1.i + 1, r.1.bad⟩).map fun q => (wantF ts q.1 wShut, node 3 (plA ts s.i) [r.2, q.2])
end

/-- The next token's place is one of the row's; the last one is the end. -/
structure Row : Prop where
  ends : 0 < ts.length ∧ (tel ts (ts.length - 1)).k = 6
  kinds : ∀ i, i < ts.length → 1 ≤ (tel ts i).k ∧ (tel ts i).k ≤ 6
theorem Row.next (h : Row ts) {i : Nat} (hi : i < ts.length) (hk : (tel ts i).k ≠ 6) : i + 1 < ts.length := by
  rcases Nat.lt_or_ge (i + 1) ts.length with h1 | h1
  · exact h1
  · have : i = ts.length - 1 := by omega
    rw [this] at hk
    exact absurd h.ends.2 hk
theorem textOf_some {i : Nat} (h : textOf ts i ≠ ⟨#[]⟩) : (tel ts i).k = 4 ∨ (tel ts i).k = 5 := by
  unfold textOf at h
  split at h
  · assumption
  · exact absurd rfl h
theorem want_lt (h : Row ts) {s : St} {w : ByteArray} (hw : w ≠ ⟨#[]⟩) (hs : s.i < ts.length) : (wantF ts s w).i < ts.length := by
  unfold wantF
  split
  · exact hs
  · rename_i hn
    have ht : textOf ts s.i = w := Classical.not_not.1 (fun h => hn (.inr h))
    have := textOf_some ts (i := s.i) (by rw [ht]; exact hw)
    exact h.next ts hs (by omega)
theorem get_lt (h : Row ts) {s : St} {k : Int} (hk : k ≠ 6) (hs : s.i < ts.length) : (getF ts s k).i < ts.length := by
  unfold getF
  split
  · exact hs
  · rename_i hn
    have ht : (tel ts s.i).k = k := Classical.not_not.1 (fun h => hn (.inr h))
    exact h.next ts hs (by omega)
end
end Parse
end Go.Proofs.YtadpjkehflokcaaGreatDoor
namespace Go.Proofs.YtadpjkehflokcaaGreatDoor
open Go.RowKit
set_option linter.unusedVariables false
namespace Parse
open Token (Tok tel)
open Term (Tm Hd)

section
variable (ts : List Tok)
theorem text_next (h : Row ts) {i : Nat} {w : ByteArray} (hi : i < ts.length) (hw : w ≠ ⟨#[]⟩) (ht : textOf ts i = w) : i + 1 < ts.length := by
  have := textOf_some ts (i := i) (by rw [ht]; exact hw)
  exact h.next ts hi (by omega)
theorem in_ne {l : List ByteArray} {x : ByteArray} (hl : ∀ y ∈ l, y ≠ ⟨#[]⟩) (h : inF l x = true) : x ≠ ⟨#[]⟩ := by
  unfold inF at h
  obtain ⟨y, hy, he⟩ := List.any_eq_true.1 h
  have := of_decide_eq_true he
  rw [← this]
  exact hl y hy
theorem signs_ne (k : Nat) : ∀ y ∈ signsF k, y ≠ ⟨#[]⟩ := by
  intro y hy
  unfold signsF at hy
  repeat' split at hy
  all_goals simp at hy
  all_goals (try rcases hy with rfl | rfl)
  all_goals (try subst hy)
  all_goals (intro h; have h2 := congrArg ByteArray.size h; revert h2; decide +kernel)
theorem pre_ne {x : ByteArray} (h : preN x < 4) : x ≠ ⟨#[]⟩ := by
  intro e
  subst e
  revert h
  decide +kernel
theorem lt_all (h : Row ts) : ∀ n : Nat,
    (∀ s r, s.i < ts.length → exprF ts n s = some r → r.1.i < ts.length) ∧ (∀ ws s r, s.i < ts.length → partsF ts n ws s = some r → r.1.i < ts.length) ∧
    (∀ k s r, s.i < ts.length → levelF ts n k s = some r → r.1.i < ts.length) ∧ (∀ k s a r, s.i < ts.length → loopF ts n k s a = some r → r.1.i < ts.length) ∧
    (∀ s r, s.i < ts.length → applyF ts n s = some r → r.1.i < ts.length) ∧ (∀ s a r, s.i < ts.length → aloopF ts n s a = some r → r.1.i < ts.length) ∧
    (∀ s r, s.i < ts.length → unaryF ts n s = some r → r.1.i < ts.length) := by
  intro n
  induction n with
  | zero => refine ⟨?_, ?_, ?_, ?_, ?_, ?_, ?_⟩ <;> (intros; simp_all [exprF, partsF, levelF, loopF, applyF, aloopF, unaryF])
  | succ n ih =>
    obtain ⟨iE, iP, iL, iO, iA, iB, iU⟩ := ih
    have W : ∀ {s : St} {w : ByteArray}, w ≠ ⟨#[]⟩ → s.i < ts.length → (wantF ts s w).i < ts.length := fun hw hs => want_lt ts h hw hs
    have G : ∀ {s : St} {k : Int}, k ≠ 6 → s.i < ts.length → (getF ts s k).i < ts.length := fun hk hs => get_lt ts h hk hs
    have n1 : wLet ≠ ⟨#[]⟩ := by decide +kernel
    have n2 : wLetrec ≠ ⟨#[]⟩ := by decide +kernel
    have n3 : wFn ≠ ⟨#[]⟩ := by decide +kernel
    have n4 : wIf ≠ ⟨#[]⟩ := by decide +kernel
    have n5 : wTry ≠ ⟨#[]⟩ := by decide +kernel
    have n6 : wWith ≠ ⟨#[]⟩ := by decide +kernel
    have n7 : wOpen ≠ ⟨#[]⟩ := by decide +kernel
    have n8 : wShut ≠ ⟨#[]⟩ := by decide +kernel
    have n9 : wComma ≠ ⟨#[]⟩ := by decide +kernel
    have n10 : wRaise ≠ ⟨#[]⟩ := by decide +kernel
    refine ⟨fun s r hs he => ?_, fun ws s r hs he => ?_, fun k s r hs he => ?_, fun k s a r hs he => ?_, fun s r hs he => ?_, fun s a r hs he => ?_, fun s r hs he => ?_⟩
    · unfold exprF at he
      split at he
      · injection he with he; rw [← he]; exact hs
      split at he
      · obtain ⟨q, hq, rfl⟩ := Option.map_eq_some_iff.1 he; exact iP _ _ q (G (by decide) (W n1 hs)) hq
      split at he
      · obtain ⟨q, hq, rfl⟩ := Option.map_eq_some_iff.1 he; exact iP _ _ q (G (by decide) (G (by decide) (W n2 hs))) hq
      split at he
      · obtain ⟨q, hq, rfl⟩ := Option.map_eq_some_iff.1 he; exact iP _ _ q (G (by decide) (W n3 hs)) hq
      split at he
      · obtain ⟨q, hq, rfl⟩ := Option.map_eq_some_iff.1 he; exact iP _ _ q (W n4 hs) hq
      split at he
      · obtain ⟨q, hq, he⟩ := Option.bind_eq_some_iff.1 he
        obtain ⟨q2, hq2, rfl⟩ := Option.map_eq_some_iff.1 he
        exact iP _ _ q2 (G (by decide) (G (by decide) (W n6 (iP _ _ q (W n5 hs) hq)))) hq2
      · exact iL _ _ r hs he
    · cases ws with
      | nil => unfold partsF at he; injection he with he; rw [← he]; exact hs
      | cons w ws =>
        unfold partsF at he
        obtain ⟨q, hq, he⟩ := Option.bind_eq_some_iff.1 he
        obtain ⟨q2, hq2, rfl⟩ := Option.map_eq_some_iff.1 he
        refine iP _ _ q2 (iE _ q ?_ hq) hq2
        split
        · exact hs
        · rename_i hw; exact W hw hs
    · unfold levelF at he
      split at he
      · exact iA _ r hs he
      · obtain ⟨q, hq, he⟩ := Option.bind_eq_some_iff.1 he
        exact iO _ _ _ r (iL _ _ q hs hq) he
    · unfold loopF at he
      split at he
      · rename_i hc
        obtain ⟨q, hq, he⟩ := Option.bind_eq_some_iff.1 he
        have hlt := iL _ ⟨s.i + 1, s.bad⟩ q (text_next ts h hs (in_ne (signs_ne k) hc.2) rfl) hq
        split at he
        · injection he with he; rw [← he]; exact hlt
        · exact iO _ _ _ r hlt he
      · injection he with he; rw [← he]; exact hs
    · unfold applyF at he
      obtain ⟨q, hq, he⟩ := Option.bind_eq_some_iff.1 he
      exact iB _ _ r (iU _ q hs hq) he
    · unfold aloopF at he
      split at he
      · obtain ⟨q, hq, he⟩ := Option.bind_eq_some_iff.1 he
        exact iB _ _ r (iU _ q hs hq) he
      · injection he with he; rw [← he]; exact hs
    · unfold unaryF at he
      split at he
      · injection he with he; rw [← he]; exact hs
      split at he
      · rename_i hp
        obtain ⟨q, hq, rfl⟩ := Option.map_eq_some_iff.1 he
        exact iU ⟨s.i + 1, s.bad⟩ q (text_next ts h hs (pre_ne hp) rfl) hq
      split at he
      · rename_i hp
        obtain ⟨q, hq, rfl⟩ := Option.map_eq_some_iff.1 he
        exact iU _ q (G (by decide) (text_next ts h hs n10 hp)) hq
      split at he
      · rename_i hk
        injection he with he; rw [← he]; exact h.next ts hs (by omega)
      split at he
      · rename_i hk
        injection he with he; rw [← he]; exact h.next ts hs (by omega)
      · obtain ⟨q, hq, he⟩ := Option.bind_eq_some_iff.1 he
        have hlt := iE _ q (W n7 hs) hq
        split at he
        · injection he with he; rw [← he]; exact W n8 hlt
        · rename_i hc
          obtain ⟨q2, hq2, rfl⟩ := Option.map_eq_some_iff.1 he
          have ht : textOf ts q.1.i = wComma := Classical.not_not.1 (fun hh => hc (.inr hh))
          exact W n8 (iE ⟨q.1.i + 1, q.1.bad⟩ q2 (text_next ts h hlt n9 ht) hq2)
end
end Parse
end Go.Proofs.YtadpjkehflokcaaGreatDoor
namespace Go.Proofs.YtadpjkehflokcaaGreatDoor
open Go.RowKit
set_option linter.unusedVariables false
namespace Parse
open Token (Tok tel)
open Term (Tm Hd)

section
variable (ts : List Tok)
/-- It went on, or something couldn't stand. -/
def On (s : St) (r : St) : Prop := r.bad = true ∨ (s.bad = false ∧ s.i < r.i)
/-- How much fuel is asked of a place. -/
def need (s : St) (c : Nat) : Nat := if s.bad = true then 8 else 12 * (ts.length - s.i) + c
theorem need_bad {s : St} (h : s.bad = true) (c : Nat) : need ts s c = 8 := by unfold need; rw [if_pos h]
theorem need_good {s : St} (h : s.bad = false) (c : Nat) : need ts s c = 12 * (ts.length - s.i) + c := by unfold need; rw [if_neg (by rw [h]; exact Bool.false_ne_true)]
/-- Behind something that went on, there is fuel left. -/
theorem need_on {s r : St} (hr : On s r) (hlt : r.i < ts.length) (c d n : Nat) (hs : s.bad = false) (hn : 12 * (ts.length - s.i) + c ≤ n + 12) (h8 : 8 ≤ n) (hd : d ≤ c) : need ts r d ≤ n := by
  rcases hr with h | ⟨_, h⟩
  · rw [need_bad ts h]; exact h8
  · cases hb : r.bad
    · rw [need_good ts hb]; omega
    · rw [need_bad ts hb]; exact h8
def Wk (s : St) (r : St) : Prop := r.bad = true ∨ (s.bad = false ∧ s.i ≤ r.i)
theorem On.wk {a b : St} (h : On a b) : Wk a b := h.imp id fun ⟨h1, h2⟩ => ⟨h1, by omega⟩
theorem Wk.refl (s : St) : Wk s s := by
  cases h : s.bad
  · exact .inr ⟨h, Nat.le_refl _⟩
  · exact .inl h
theorem Wk.trans {a b c : St} (h : Wk a b) (k : Wk b c) : Wk a c := by
  rcases k with k | ⟨k1, k2⟩
  · exact .inl k
  · rcases h with h | ⟨h1, h2⟩
    · rw [h] at k1; cases k1
    · exact .inr ⟨h1, by omega⟩
theorem On.then {a b c : St} (h : On a b) (k : Wk b c) : On a c := by
  rcases k with k | ⟨k1, k2⟩
  · exact .inl k
  · rcases h with h | ⟨h1, h2⟩
    · rw [h] at k1; cases k1
    · exact .inr ⟨h1, by omega⟩
theorem Wk.on {a b c : St} (h : Wk a b) (k : On b c) : On a c := by
  rcases k with k | ⟨k1, k2⟩
  · exact .inl k
  · rcases h with h | ⟨h1, h2⟩
    · rw [h] at k1; cases k1
    · exact .inr ⟨h1, by omega⟩
theorem want_on (s : St) (w : ByteArray) : On s (wantF ts s w) := by
  unfold wantF
  split
  · exact .inl rfl
  · rename_i h
    exact .inr ⟨by cases hb : s.bad; rfl; exact absurd (.inl hb) h, Nat.lt_succ_self _⟩
theorem get_on (s : St) (k : Int) : On s (getF ts s k) := by
  unfold getF
  split
  · exact .inl rfl
  · rename_i h
    exact .inr ⟨by cases hb : s.bad; rfl; exact absurd (.inl hb) h, Nat.lt_succ_self _⟩
theorem step_on {s : St} (h : s.bad = false) : On s ⟨s.i + 1, s.bad⟩ := .inr ⟨h, Nat.lt_succ_self _⟩
theorem need_mono {s r : St} {c : Nat} (h : Wk s r) : need ts r c ≤ max 8 (need ts s c) := by
  unfold need
  rcases h with h | ⟨h1, h2⟩
  · rw [if_pos h]; omega
  · rw [h1]
    split
    · omega
    · rw [if_neg Bool.false_ne_true]; omega
/-- Behind a token, a whole one's fuel is left. -/
theorem need_next {s r : St} (h : On s r) (hb : s.bad = false) (hlt : s.i < ts.length) (c d : Nat) (hd : d ≤ c + 12) : need ts r d ≤ max 8 (need ts s c) := by
  rw [need_good ts hb]
  rcases h with h | ⟨_, h⟩
  · rw [need_bad ts h]; omega
  · cases hr : r.bad
    · rw [need_good ts hr]; omega
    · rw [need_bad ts hr]; omega

theorem enough (h : Row ts) : ∀ n : Nat,
    (∀ s, s.i < ts.length → need ts s 11 ≤ n → ∃ r, exprF ts n s = some r ∧ (if s.bad = true then r.1 = s else On s r.1)) ∧
    (∀ ws s, s.i < ts.length → max 8 (need ts s 11) + ws.length + 1 ≤ n → ∃ r, partsF ts n ws s = some r ∧ Wk s r.1) ∧
    (∀ k s, k ≤ 4 → s.bad = false → s.i < ts.length → 12 * (ts.length - s.i) + 9 - k ≤ n → ∃ r, levelF ts n k s = some r ∧ On s r.1) ∧
    (∀ k s a, k < 4 → s.i < ts.length → need ts s 8 ≤ n → ∃ r, loopF ts n k s a = some r ∧ Wk s r.1) ∧
    (∀ s, s.bad = false → s.i < ts.length → 12 * (ts.length - s.i) + 4 ≤ n → ∃ r, applyF ts n s = some r ∧ On s r.1) ∧
    (∀ s a, s.i < ts.length → need ts s 8 ≤ n → ∃ r, aloopF ts n s a = some r ∧ Wk s r.1) ∧
    (∀ s, s.i < ts.length → need ts s 3 ≤ n → ∃ r, unaryF ts n s = some r ∧ (if s.bad = true then r.1 = s else On s r.1)) := by
  intro n
  induction n with
  | zero =>
    have hp : ∀ s c, ¬ need ts s c ≤ 0 ∨ (s.bad = false ∧ c = 0 ∧ ts.length - s.i = 0) := fun s c => by
      unfold need
      split
      · exact .inl (by omega)
      · rename_i hb
        by_cases h0 : c = 0 ∧ ts.length - s.i = 0
        · exact .inr ⟨by simpa using hb, h0⟩
        · exact .inl (by omega)
    refine ⟨fun s hs hn => ?_, fun ws s hs hn => by omega, fun k s hk hb hs hn => by omega, fun k s a hk hs hn => ?_, fun s hb hs hn => by omega, fun s a hs hn => ?_, fun s hs hn => ?_⟩
    all_goals (rcases hp s _ with h1 | ⟨_, h1, _⟩; exact absurd hn h1; omega)
  | succ n ih =>
    obtain ⟨iE, iP, iL, iO, iA, iB, iU⟩ := ih
    obtain ⟨lE, lP, lL, lO, lA, lB, lU⟩ := lt_all ts h n
    have W : ∀ {s : St} {w : ByteArray}, w ≠ ⟨#[]⟩ → s.i < ts.length → (wantF ts s w).i < ts.length := fun hw hs => want_lt ts h hw hs
    have G : ∀ {s : St} {k : Int}, k ≠ 6 → s.i < ts.length → (getF ts s k).i < ts.length := fun hk hs => get_lt ts h hk hs
    have n1 : wLet ≠ ⟨#[]⟩ := by decide +kernel
    have n2 : wLetrec ≠ ⟨#[]⟩ := by decide +kernel
    have n3 : wFn ≠ ⟨#[]⟩ := by decide +kernel
    have n4 : wIf ≠ ⟨#[]⟩ := by decide +kernel
    have n5 : wTry ≠ ⟨#[]⟩ := by decide +kernel
    have n6 : wWith ≠ ⟨#[]⟩ := by decide +kernel
    have n7 : wOpen ≠ ⟨#[]⟩ := by decide +kernel
    have n8 : wShut ≠ ⟨#[]⟩ := by decide +kernel
    have n9 : wComma ≠ ⟨#[]⟩ := by decide +kernel
    have n10 : wRaise ≠ ⟨#[]⟩ := by decide +kernel
    -- what is left behind one token
    have B : ∀ {s r : St} (d : Nat), s.bad = false → s.i < ts.length → On s r → d ≤ 12 → need ts r d ≤ 12 * (ts.length - s.i) := fun {s r} d hb hs ho hd => by
      have h1 := need_next ts ho hb hs 0 d (by omega)
      rw [need_good ts hb] at h1
      omega
    have ifE : ∀ {s : St} {r : St}, (if s.bad = true then r = s else On s r) → Wk s r := fun {s r} hc => by
      split at hc
      · rw [hc]; exact Wk.refl s
      · exact hc.wk
    have ifG : ∀ {s : St} {r : St}, s.bad = false → (if s.bad = true then r = s else On s r) → On s r := fun {s r} hb hc => by
      rw [if_neg (by rw [hb]; exact Bool.false_ne_true)] at hc
      exact hc
    have ifM : ∀ {s : St} {r : St}, s.bad = false → On s r → (if s.bad = true then r = s else On s r) := fun {s r} hb ho => by
      rw [if_neg (by rw [hb]; exact Bool.false_ne_true)]
      exact ho
    refine ⟨fun s hs hn => ?_, fun ws s hs hn => ?_, fun k s hk hb hs hn => ?_, fun k s a hk hs hn => ?_, fun s hb hs hn => ?_, fun s a hs hn => ?_, fun s hs hn => ?_⟩
    · unfold exprF
      by_cases hb : s.bad = true
      · rw [if_pos hb]; exact ⟨_, rfl, by rw [if_pos hb]⟩
      have hb' : s.bad = false := by simpa using hb
      rw [need_good ts hb'] at hn
      rw [if_neg hb]
      by_cases h1 : textOf ts s.i = wLet
      · rw [if_pos h1]
        have ho := (want_on ts s wLet).then (get_on ts (wantF ts s wLet) 2).wk
        obtain ⟨r, hr, hw⟩ := iP [wIs, wIn] (getF ts (wantF ts s wLet) 2) (G (by decide) (W n1 hs)) (by have := B 11 hb' hs ho (by omega); simp only [List.length_cons, List.length_nil]; omega)
        refine ⟨_, by rw [hr]; rfl, ?_⟩
        exact ifM hb' (ho.then hw)
      rw [if_neg h1]
      by_cases h2 : textOf ts s.i = wLetrec
      · rw [if_pos h2]
        have ho := ((want_on ts s wLetrec).then (get_on ts (wantF ts s wLetrec) 2).wk).then (get_on ts (getF ts (wantF ts s wLetrec) 2) 2).wk
        obtain ⟨r, hr, hw⟩ := iP [wIs, wIn] (getF ts (getF ts (wantF ts s wLetrec) 2) 2) (G (by decide) (G (by decide) (W n2 hs))) (by have := B 11 hb' hs ho (by omega); simp only [List.length_cons, List.length_nil]; omega)
        refine ⟨_, by rw [hr]; rfl, ?_⟩
        exact ifM hb' (ho.then hw)
      rw [if_neg h2]
      by_cases h3 : textOf ts s.i = wFn
      · rw [if_pos h3]
        have ho := (want_on ts s wFn).then (get_on ts (wantF ts s wFn) 2).wk
        obtain ⟨r, hr, hw⟩ := iP [wArrow] (getF ts (wantF ts s wFn) 2) (G (by decide) (W n3 hs)) (by have := B 11 hb' hs ho (by omega); simp only [List.length_cons, List.length_nil]; omega)
        refine ⟨_, by rw [hr]; rfl, ?_⟩
        exact ifM hb' (ho.then hw)
      rw [if_neg h3]
      by_cases h4 : textOf ts s.i = wIf
      · rw [if_pos h4]
        have ho := want_on ts s wIf
        obtain ⟨r, hr, hw⟩ := iP [e0, wThen, wElse] _ (W n4 hs) (by have := B 11 hb' hs ho (by omega); simp only [List.length_cons, List.length_nil]; omega)
        refine ⟨_, by rw [hr]; rfl, ?_⟩
        exact ifM hb' (ho.then hw)
      rw [if_neg h4]
      by_cases h5 : textOf ts s.i = wTry
      · rw [if_pos h5]
        have ho := want_on ts s wTry
        obtain ⟨r, hr, hw⟩ := iP [e0] _ (W n5 hs) (by have := B 11 hb' hs ho (by omega); simp only [List.length_cons, List.length_nil]; omega)
        have hlt := lP _ _ r (W n5 hs) hr
        have ho2 := (((ho.then hw).then (want_on ts r.1 wWith).wk).then (get_on ts (wantF ts r.1 wWith) 3).wk).then (get_on ts (getF ts (wantF ts r.1 wWith) 3) 2).wk
        obtain ⟨q, hq, hw2⟩ := iP [wArrow] (getF ts (getF ts (wantF ts r.1 wWith) 3) 2) (G (by decide) (G (by decide) (W n6 hlt))) (by have := B 11 hb' hs ho2 (by omega); simp only [List.length_cons, List.length_nil]; omega)
        refine ⟨_, by rw [hr, Option.bind_some, hq]; rfl, ?_⟩
        exact ifM hb' (ho2.then hw2)
      rw [if_neg h5]
      obtain ⟨r, hr, ho⟩ := iL 0 s (by omega) hb' hs (by omega)
      exact ⟨r, hr, ifM hb' ho⟩
    · cases ws with
      | nil => unfold partsF; exact ⟨_, rfl, Wk.refl s⟩
      | cons w ws =>
        unfold partsF
        rw [List.length_cons] at hn
        have hs' : (if w = e0 then s else wantF ts s w).i < ts.length := by
          split
          · exact hs
          · rename_i hw; exact W hw hs
        have hk : Wk s (if w = e0 then s else wantF ts s w) := by
          split
          · exact Wk.refl s
          · exact (want_on ts s w).wk
        obtain ⟨r, hr, hc⟩ := iE _ hs' (by have := need_mono ts (c := 11) hk; omega)
        have hk2 := hk.trans (ifE hc)
        obtain ⟨q, hq, hk3⟩ := iP ws r.1 (lE _ r hs' hr) (by have := need_mono ts (c := 11) hk2; omega)
        refine ⟨_, by rw [hr, Option.bind_some, hq]; rfl, ?_⟩
        exact hk2.trans hk3
    · unfold levelF
      by_cases h4 : k = 4
      · rw [if_pos h4]
        exact iA s hb hs (by omega)
      · rw [if_neg h4]
        obtain ⟨r, hr, ho⟩ := iL (k + 1) s (by omega) hb hs (by omega)
        obtain ⟨q, hq, hk2⟩ := iO k r.1 r.2 (by omega) (lL _ _ r hs hr) (by have := B 8 hb hs ho (by omega); omega)
        exact ⟨q, by rw [hr, Option.bind_some, hq], ho.then hk2⟩
    · unfold loopF
      by_cases hc : s.bad = false ∧ inF (signsF k) (textOf ts s.i) = true
      · rw [if_pos hc]
        rw [need_good ts hc.1] at hn
        have hlt := text_next ts h hs (in_ne (signs_ne k) hc.2) rfl
        obtain ⟨r, hr, ho⟩ := iL (k + 1) ⟨s.i + 1, s.bad⟩ (by omega) hc.1 hlt (by show 12 * (ts.length - (s.i + 1)) + 9 - (k + 1) ≤ n; omega)
        have ho2 := (step_on hc.1).then ho.wk
        by_cases h2 : k < 2
        · refine ⟨_, by rw [hr, Option.bind_some, if_pos h2], ?_⟩
          exact ho2.wk
        · obtain ⟨q, hq, hk2⟩ := iO k r.1 (putF (textOf ts s.i) a r.2) hk (lL _ ⟨s.i + 1, s.bad⟩ r hlt hr) (by have := B 8 hc.1 hs ho2 (by omega); omega)
          exact ⟨q, by rw [hr, Option.bind_some, if_neg h2, hq], (ho2.then hk2).wk⟩
      · rw [if_neg hc]; exact ⟨_, rfl, Wk.refl s⟩
    · unfold applyF
      obtain ⟨r, hr, hc⟩ := iU s hs (by rw [need_good ts hb]; omega)
      have ho := ifG hb hc
      obtain ⟨q, hq, hk2⟩ := iB r.1 r.2 (lU _ r hs hr) (by have := B 8 hb hs ho (by omega); omega)
      exact ⟨q, by rw [hr, Option.bind_some, hq], ho.then hk2⟩
    · unfold aloopF
      by_cases hc : s.bad = false ∧ startsF ts s = true
      · rw [if_pos hc]
        rw [need_good ts hc.1] at hn
        obtain ⟨r, hr, hc2⟩ := iU s hs (by rw [need_good ts hc.1]; omega)
        have ho := ifG hc.1 hc2
        obtain ⟨q, hq, hk2⟩ := iB r.1 (node 10 a.h.pl [a, r.2]) (lU _ r hs hr) (by have := B 8 hc.1 hs ho (by omega); omega)
        exact ⟨q, by rw [hr, Option.bind_some, hq], (ho.then hk2).wk⟩
      · rw [if_neg hc]; exact ⟨_, rfl, Wk.refl s⟩
    · unfold unaryF
      by_cases hb : s.bad = true
      · rw [if_pos hb]; exact ⟨_, rfl, by rw [if_pos hb]⟩
      have hb' : s.bad = false := by simpa using hb
      rw [need_good ts hb'] at hn
      rw [if_neg hb]
      by_cases h1 : preN (textOf ts s.i) < 4
      · rw [if_pos h1]
        have hlt := text_next ts h hs (pre_ne h1) rfl
        obtain ⟨r, hr, hc⟩ := iU ⟨s.i + 1, s.bad⟩ hlt (by have := B 3 hb' hs (step_on hb') (by omega); omega)
        refine ⟨_, by rw [hr]; rfl, ?_⟩
        exact ifM hb' ((step_on hb').then (ifE hc))
      rw [if_neg h1]
      by_cases h2 : textOf ts s.i = wRaise
      · rw [if_pos h2]
        have hlt := text_next ts h hs n10 h2
        have ho := (step_on hb').then (get_on ts ⟨s.i + 1, s.bad⟩ 3).wk
        obtain ⟨r, hr, hc⟩ := iU _ (G (s := ⟨s.i + 1, s.bad⟩) (k := 3) (by decide) hlt) (by have := B 3 hb' hs ho (by omega); omega)
        refine ⟨_, by rw [hr]; rfl, ?_⟩
        exact ifM hb' (ho.then (ifE hc))
      rw [if_neg h2]
      by_cases h3 : (tel ts s.i).k = 1
      · rw [if_pos h3]; exact ⟨_, rfl, ifM hb' (step_on hb')⟩
      rw [if_neg h3]
      by_cases h4 : (tel ts s.i).k = 2
      · rw [if_pos h4]; exact ⟨_, rfl, ifM hb' (step_on hb')⟩
      rw [if_neg h4]
      have ho := want_on ts s wOpen
      obtain ⟨r, hr, hc⟩ := iE (wantF ts s wOpen) (W n7 hs) (by have := B 11 hb' hs ho (by omega); omega)
      have ho2 := ho.then (ifE hc)
      have hlt := lE _ r (W n7 hs) hr
      by_cases h5 : r.1.bad = true ∨ textOf ts r.1.i ≠ wComma
      · refine ⟨_, by rw [hr, Option.bind_some, if_pos h5], ?_⟩
        exact ifM hb' (ho2.then (want_on ts r.1 wShut).wk)
      · have hrb : r.1.bad = false := by
          cases hh : r.1.bad
          · rfl
          · exact absurd (.inl hh) h5
        have ht : textOf ts r.1.i = wComma := Classical.not_not.1 (fun hh => h5 (.inr hh))
        have ho3 := ho2.then (step_on hrb).wk
        obtain ⟨q, hq, hc2⟩ := iE ⟨r.1.i + 1, r.1.bad⟩ (text_next ts h hlt n9 ht) (by have := B 11 hb' hs ho3 (by omega); omega)
        refine ⟨_, by rw [hr, Option.bind_some, if_neg h5, hq]; rfl, ?_⟩
        exact ifM hb' ((ho3.then (ifE hc2)).then (want_on ts q.1 wShut).wk)
end
end Parse
end Go.Proofs.YtadpjkehflokcaaGreatDoor
namespace Go.Proofs.YtadpjkehflokcaaGreatDoor
open Go.RowKit
set_option linter.unusedVariables false
namespace Parse
open Term (Tm Hd)
open Token (Tok tel lex Placed pieceK pieceN tokAt endT digK letK)

/-- A token ahead of the end. -/
structure TokGood (t : Tok) : Prop where
  kind : 1 ≤ t.k ∧ t.k ≤ 5
  num : t.k = 1 → Words.numB t.s.data.toList = true
  name : t.k = 2 → Words.nameB t.s = true
  exn : t.k = 3 → Words.exnB t.s = true
theorem tokAt_good {xs : List Int} {a : Nat} (h : pieceK xs ≠ 0) : TokGood (tokAt xs a) := by
  obtain ⟨r1, r2⟩ := Token.pieceK_range xs
  refine ⟨⟨by show 1 ≤ pieceK xs; omega, r2⟩, fun e => ?_, fun e => ?_, fun e => ?_⟩
  all_goals
    have e' : pieceK xs = _ := e
    show _ = true
    unfold tokAt pieceN
    unfold pieceK at e'
    split at e'
    · rename_i h2
      rw [if_pos h2]
      unfold digK at e'
      split at e'
      all_goals first | assumption | exact absurd e' (by decide)
    split at e'
    · rename_i h2 h3
      rw [if_neg h2, if_pos h3]
      unfold letK at e'
      repeat' split at e'
      all_goals first | assumption | exact absurd e' (by decide)
    repeat' split at e'
    all_goals exact absurd e' (by decide)
theorem placed_good : ∀ (ts : List Tok) (xs : List Int) (a : Nat), Placed xs a ts → ∀ t ∈ ts, TokGood t
  | [], _, _, _, t, ht => by cases ht
  | u :: us, xs, a, ⟨j, _, _, h3, h4, h5⟩, t, ht => by
    rcases List.mem_cons.1 ht with rfl | ht
    · rw [h4]; exact tokAt_good h3
    · exact placed_good us _ _ h5 t ht

def wordsL : List ByteArray := [wLet, wLetrec, wIn, wFn, wIf, wThen, wElse, wRaise, wTry, wWith, wRef, wFst, wSnd, wExn, wIs, wArrow, wPut, wLess, wAdd, wSub, wMul, wGet, wOpen, wShut, wComma, wSemi]
theorem words_apart : ∀ w ∈ wordsL, Words.numB w.data.toList = false ∧ Words.nameB w = false ∧ Words.exnB w = false ∧ w ≠ ⟨#[]⟩ := by decide +kernel

/-- A row of tokens that cutting makes. -/
structure Good (ts : List Tok) : Prop where
  row : Row ts
  good : ∀ i, i < ts.length → (tel ts i).k ≠ 6 → TokGood (tel ts i)
  stop : ∀ i, i < ts.length → (tel ts i).k = 6 → (tel ts i).s = ⟨#[]⟩
theorem tel_left (ts us : List Tok) (i : Nat) (h : i < ts.length) : tel (ts ++ us) i = tel ts i := by
  unfold tel
  rw [List.getD_eq_getElem?_getD, List.getD_eq_getElem?_getD, List.getElem?_append_left h]
theorem tel_end (ts : List Tok) (t : Tok) : tel (ts ++ [t]) ts.length = t := by
  unfold tel
  rw [List.getD_eq_getElem?_getD, List.getElem?_append_right (Nat.le_refl _)]
  simp
theorem tel_mem {ts : List Tok} {i : Nat} (h : i < ts.length) : tel ts i ∈ ts := by
  unfold tel
  rw [List.getD_eq_getElem?_getD, List.getElem?_eq_getElem h]
  exact List.getElem_mem h
theorem good_of_lex {xs : List Int} {ts : List Tok} (h : lex xs 0 = .inr ts) : Good (ts ++ [endT xs.length]) := by
  have hg := placed_good ts xs 0 (Token.lex_placed _ xs 0 ts (Nat.le_refl _) h)
  have each : ∀ i, i < (ts ++ [endT xs.length]).length → (i < ts.length ∧ TokGood (tel (ts ++ [endT xs.length]) i)) ∨ (i = ts.length ∧ tel (ts ++ [endT xs.length]) i = endT xs.length) := by
    intro i hi
    rw [List.length_append, List.length_singleton] at hi
    by_cases hl : i < ts.length
    · exact .inl ⟨hl, by rw [tel_left _ _ _ hl]; exact hg _ (tel_mem hl)⟩
    · obtain rfl : i = ts.length := by omega
      exact .inr ⟨rfl, tel_end _ _⟩
  refine ⟨⟨⟨by simp, by rw [List.length_append, List.length_singleton, Nat.add_sub_cancel, tel_end]; rfl⟩, fun i hi => ?_⟩, fun i hi hk => ?_, fun i hi hk => ?_⟩
  · rcases each i hi with ⟨_, h1⟩ | ⟨_, h1⟩
    · have := h1.kind; omega
    · rw [h1]; show (1 : Int) ≤ 6 ∧ (6 : Int) ≤ 6; omega
  · rcases each i hi with ⟨_, h1⟩ | ⟨_, h1⟩
    · exact h1
    · rw [h1] at hk; exact absurd rfl hk
  · rcases each i hi with ⟨_, h1⟩ | ⟨_, h1⟩
    · have := h1.kind; omega
    · rw [h1]; rfl
section
variable {ts : List Tok}
theorem Good.apart (h : Good ts) {i : Nat} (hi : i < ts.length) (h4 : (tel ts i).k ≠ 4) (h5 : (tel ts i).k ≠ 5) {w : ByteArray} (hw : w ∈ wordsL) : (tel ts i).s ≠ w := by
  obtain ⟨w1, w2, w3, w4⟩ := words_apart w hw
  intro e
  by_cases h6 : (tel ts i).k = 6
  · rw [h.stop i hi h6] at e; exact w4 e.symm
  obtain ⟨k, n1, n2, n3⟩ := h.good i hi h6
  have : (tel ts i).k = 1 ∨ (tel ts i).k = 2 ∨ (tel ts i).k = 3 := by omega
  rcases this with hk | hk | hk
  · rw [← e, n1 hk] at w1; cases w1
  · rw [← e, n2 hk] at w2; cases w2
  · rw [← e, n3 hk] at w3; cases w3
theorem Good.is_text (h : Good ts) {i : Nat} (hi : i < ts.length) {w : ByteArray} (hw : w ∈ wordsL) : (tel ts i).s = w ↔ textOf ts i = w := by
  unfold textOf
  by_cases hk : (tel ts i).k = 4 ∨ (tel ts i).k = 5
  · rw [if_pos hk]
  · rw [if_neg hk]
    refine ⟨fun e => absurd e (h.apart hi (by omega) (by omega) hw), fun e => absurd e.symm (words_apart w hw).2.2.2⟩
theorem Good.in_text (h : Good ts) {i : Nat} (hi : i < ts.length) {l : List ByteArray} (hl : ∀ w ∈ l, w ∈ wordsL) : inF l (tel ts i).s = inF l (textOf ts i) := by
  unfold inF
  rw [Bool.eq_iff_iff, List.any_eq_true, List.any_eq_true]
  constructor
  · rintro ⟨y, hy, e⟩
    exact ⟨y, hy, decide_eq_true ((h.is_text hi (hl y hy)).1 (of_decide_eq_true e).symm).symm⟩
  · rintro ⟨y, hy, e⟩
    exact ⟨y, hy, decide_eq_true ((h.is_text hi (hl y hy)).2 (of_decide_eq_true e).symm).symm⟩
end

/-! ### What couldn't stand, stays -/
section
variable (ts : List Tok)
theorem want_bad {s : St} {w : ByteArray} (h : s.bad = true) : wantF ts s w = s := by
  unfold wantF; rw [if_pos (.inl h)]; cases s; cases h; rfl
theorem get_bad {s : St} {k : Int} (h : s.bad = true) : getF ts s k = s := by
  unfold getF; rw [if_pos (.inl h)]; cases s; cases h; rfl
theorem expr_bad {n : Nat} {s : St} {r : St × Tm} (h : s.bad = true) (he : exprF ts n s = some r) : r.1 = s := by
  cases n with
  | zero => unfold exprF at he; cases he
  | succ n => unfold exprF at he; rw [if_pos h] at he; injection he with he; rw [← he]
theorem parts_bad : ∀ (ws : List ByteArray) (n : Nat) (s : St) (r : St × List Tm), s.bad = true → partsF ts n ws s = some r → r.1 = s
  | [], n, s, r, h, he => by
    cases n with
    | zero => unfold partsF at he; cases he
    | succ n => unfold partsF at he; injection he with he; rw [← he]
  | w :: ws, n, s, r, h, he => by
    cases n with
    | zero => unfold partsF at he; cases he
    | succ n =>
      unfold partsF at he
      obtain ⟨q, hq, he⟩ := Option.bind_eq_some_iff.1 he
      obtain ⟨u, hu, he⟩ := Option.map_eq_some_iff.1 he
      have h1 : (if w = e0 then s else wantF ts s w) = s := by split; rfl; exact want_bad ts h
      rw [h1] at hq
      have h2 := expr_bad ts h hq
      have h3 := parts_bad ws n q.1 u (by rw [h2]; exact h) hu
      rw [← he]
      exact h3.trans h2
theorem loop_bad {n k : Nat} {s : St} {a : Tm} {r : St × Tm} (h : s.bad = true) (he : loopF ts n k s a = some r) : r = (s, a) := by
  cases n with
  | zero => unfold loopF at he; cases he
  | succ n =>
    unfold loopF at he
    rw [if_neg (by rw [h]; simp)] at he
    injection he with he
    exact he.symm
theorem aloop_bad {n : Nat} {s : St} {a : Tm} {r : St × Tm} (h : s.bad = true) (he : aloopF ts n s a = some r) : r = (s, a) := by
  cases n with
  | zero => unfold aloopF at he; cases he
  | succ n =>
    unfold aloopF at he
    rw [if_neg (by rw [h]; simp)] at he
    injection he with he
    exact he.symm
end
end Parse
end Go.Proofs.YtadpjkehflokcaaGreatDoor
