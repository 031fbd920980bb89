/- What is shown of what was read has no more words than were read. -/
import Derived.Test.YtkcadkjpneoobaaGreatDoorGParseK
import Derived.Test.YtkcadkjpneoobaaGreatDoorGShowA
namespace Go.Proofs.YtkcadkjpneoobaaGreatDoor
open Go.RowKit
set_option linter.unusedVariables false
set_option linter.unusedSimpArgs false
namespace Parse
open Token (Tok tel)
open Term (Tm Hd wt wts)
open Show (wordsT wordsK kdT kd asW comb twoW partN opPartN signW wordsT_eq wordsK_map)

def nw (t : Tm) : Nat := (wordsT t).length
def aw (p : Int) (t : Tm) : Nat := if p ≤ partN t.h.k t.h.op then nw t else nw t + 2
theorem aw_eq (p : Int) (t : Tm) : (asW p (kdT t)).length = aw p t := by
  unfold asW kdT aw nw
  split <;> simp
theorem aw_le (p : Int) (t : Tm) : aw p t ≤ nw t + 2 := by unfold aw; split <;> omega
theorem nw_le (p : Int) (t : Tm) : nw t ≤ aw p t := by unfold aw; split <;> omega
theorem aw_mono {p q : Int} (h : p ≤ q) (t : Tm) : aw p t ≤ aw q t := by
  unfold aw
  split
  · split <;> omega
  · rw [if_neg (by omega)]; omega
def sumN : List Tm → Nat
  | [] => 0
  | t :: ts => nw t + sumN ts
def cnt : List ByteArray → Nat
  | [] => 0
  | w :: ws => (if w = e0 then 0 else 1) + cnt ws
theorem nw_node (h : Hd) (ks : List Tm) : nw (.node h ks) = (comb h (ks.map kdT)).length := by
  unfold nw
  rw [wordsT_eq, wordsK_map]
  rfl
theorem kd0 (a : Tm) (l : List Tm) : kd ((a :: l).map kdT) 0 = kdT a := rfl
theorem kd1 (a b : Tm) (l : List Tm) : kd ((a :: b :: l).map kdT) 1 = kdT b := rfl
theorem kd2 (a b c : Tm) (l : List Tm) : kd ((a :: b :: c :: l).map kdT) 2 = kdT c := rfl
theorem kdT_len (a : Tm) : (kdT a).2.length = nw a := rfl
def NodeW (p : Int) (s : St) (r : St × Tm) : Prop := r.1.bad = false → s.bad = false ∧ aw p r.2 + s.i ≤ r.1.i
def PartsW (s : St) (ws : List ByteArray) (q : St × List Tm) : Prop := q.1.bad = false → s.bad = false ∧ q.2.length = ws.length ∧ sumN q.2 + cnt ws + s.i ≤ q.1.i
def LoopW (p p' : Int) (s : St) (a : Tm) (r : St × Tm) : Prop := r.1.bad = false → s.bad = false ∧ aw p r.2 + s.i ≤ aw p' a + r.1.i
theorem list1 {l : List Tm} (h : l.length = 1) : ∃ a, l = [a] := by
  match l, h with
  | [a], _ => exact ⟨a, rfl⟩
theorem list2 {l : List Tm} (h : l.length = 2) : ∃ a b, l = [a, b] := by
  match l, h with
  | [a, b], _ => exact ⟨a, b, rfl⟩
theorem list3 {l : List Tm} (h : l.length = 3) : ∃ a b c, l = [a, b, c] := by
  match l, h with
  | [a, b, c], _ => exact ⟨a, b, c, rfl⟩
/-- The level's part, and what a term ahead of its signs must be. -/
def inP (k : Nat) : Int := if k < 2 then (k : Int) + 2 else (k : Int) + 1
theorem put_aw {k : Nat} {x : ByteArray} (hx : inF (signsF k) x = true) (hk : k < 4) (a b : Tm) : aw ((k : Int) + 1) (putF x a b) ≤ aw (inP k) a + 1 + aw ((k : Int) + 2) b := by
  have hm := in_mem' hx
  have hk4 : k = 0 ∨ k = 1 ∨ k = 2 ∨ k = 3 := by omega
  have step : ∀ (kk op : Int) (L R : Int) (w : ByteArray), opK x = kk → opO x = op → ((k : Int) + 1 ≤ partN kk op) → (∀ ks, (comb ⟨kk, op, a.h.pl, 0, ⟨#[]⟩, ⟨#[]⟩, ⟨#[]⟩⟩ ks) = twoW ks L w R) → L = inP k → R = (k : Int) + 2 → aw ((k : Int) + 1) (putF x a b) ≤ aw (inP k) a + 1 + aw ((k : Int) + 2) b := by
    intro kk op L R w h1 h2 h3 h4 h5 h6
    have e : putF x a b = .node ⟨kk, op, a.h.pl, 0, ⟨#[]⟩, ⟨#[]⟩, ⟨#[]⟩⟩ [a, b] := by unfold putF; rw [h1, h2]
    rw [e]
    have h7 : aw ((k : Int) + 1) (.node ⟨kk, op, a.h.pl, 0, ⟨#[]⟩, ⟨#[]⟩, ⟨#[]⟩⟩ [a, b]) = nw (.node ⟨kk, op, a.h.pl, 0, ⟨#[]⟩, ⟨#[]⟩, ⟨#[]⟩⟩ [a, b]) := if_pos h3
    rw [h7, nw_node, h4]
    unfold twoW
    rw [List.length_append, List.length_cons, kd0, kd1, aw_eq, aw_eq, h5, h6]
    omega
  rcases hk4 with rfl | rfl | rfl | rfl
  · have : x = wPut := by simpa [signsF] using hm
    subst this
    exact step 8 0 2 2 wPut (by decide +kernel) (by decide +kernel) (by decide) (fun ks => by simp [comb]) rfl rfl
  · have : x = wLess ∨ x = wIs := by simpa [signsF] using hm
    rcases this with rfl | rfl
    · exact step 9 4 3 3 wLess (by decide +kernel) (by decide +kernel) (by decide) (fun ks => by simp [comb, signW]) rfl rfl
    · exact step 9 5 3 3 wIs (by decide +kernel) (by decide +kernel) (by decide) (fun ks => by simp [comb, signW]) rfl rfl
  · have : x = wAdd ∨ x = wSub := by simpa [signsF] using hm
    rcases this with rfl | rfl
    · exact step 9 1 3 4 wAdd (by decide +kernel) (by decide +kernel) (by decide) (fun ks => by simp [comb, signW]) rfl rfl
    · exact step 9 2 3 4 wSub (by decide +kernel) (by decide +kernel) (by decide) (fun ks => by simp [comb, signW]) rfl rfl
  · have : x = wMul := by simpa [signsF] using hm
    subst this
    exact step 9 3 4 5 wMul (by decide +kernel) (by decide +kernel) (by decide) (fun ks => by simp [comb, signW]) rfl rfl
theorem pre_comb {j : Nat} (h : j < 4) (pl : Int) (a : Tm) : aw 6 (node ((4 : Int) + (j : Int)) pl [a]) = 1 + aw 6 a := by
  have hj : j = 0 ∨ j = 1 ∨ j = 2 ∨ j = 3 := by omega
  have step : ∀ (kk : Int) (w : ByteArray), (4 : Int) + (j : Int) = kk → partN kk 0 = 6 → (∀ ks, comb ⟨kk, 0, pl, 0, ⟨#[]⟩, ⟨#[]⟩, ⟨#[]⟩⟩ ks = w :: asW 6 (kd ks 0)) → aw 6 (node ((4 : Int) + (j : Int)) pl [a]) = 1 + aw 6 a := by
    intro kk w h1 h2 h3
    rw [h1]
    unfold node
    have h7 : aw 6 (.node ⟨kk, 0, pl, 0, ⟨#[]⟩, ⟨#[]⟩, ⟨#[]⟩⟩ [a]) = nw (.node ⟨kk, 0, pl, 0, ⟨#[]⟩, ⟨#[]⟩, ⟨#[]⟩⟩ [a]) := if_pos (by show (6 : Int) ≤ partN kk 0; rw [h2]; omega)
    rw [h7, nw_node, h3, List.length_cons, kd0, aw_eq]
    omega
  rcases hj with rfl | rfl | rfl | rfl
  · exact step 4 wFst rfl (by decide) (fun ks => by simp [comb])
  · exact step 5 wSnd rfl (by decide) (fun ks => by simp [comb])
  · exact step 6 wRef rfl (by decide) (fun ks => by simp [comb])
  · exact step 7 wGet rfl (by decide) (fun ks => by simp [comb])
theorem aw0 {p : Int} {t : Tm} (h : p ≤ partN t.h.k t.h.op) : aw p t = nw t := if_pos h
theorem nw_let (pl : Int) (nm : ByteArray) (a b : Tm) : nw (.node ⟨12, 0, pl, 0, nm, ⟨#[]⟩, ⟨#[]⟩⟩ [a, b]) = 4 + nw a + nw b := by
  rw [nw_node, show ∀ ks, comb ⟨12, 0, pl, 0, nm, ⟨#[]⟩, ⟨#[]⟩⟩ ks = [wLet, nm, wIs] ++ (kd ks 0).2 ++ (wIn :: (kd ks 1).2) from fun ks => by simp [comb]]
  simp only [List.length_append, List.length_cons, List.length_nil, kd0, kd1, kdT_len]
  omega
theorem nw_letrec (pl : Int) (nm ar : ByteArray) (a b : Tm) : nw (.node ⟨13, 0, pl, 0, nm, ar, ⟨#[]⟩⟩ [a, b]) = 5 + nw a + nw b := by
  rw [nw_node, show ∀ ks, comb ⟨13, 0, pl, 0, nm, ar, ⟨#[]⟩⟩ ks = [wLetrec, nm, ar, wIs] ++ (kd ks 0).2 ++ (wIn :: (kd ks 1).2) from fun ks => by simp [comb]]
  simp only [List.length_append, List.length_cons, List.length_nil, kd0, kd1, kdT_len]
  omega
theorem nw_fn (pl : Int) (ar : ByteArray) (a : Tm) : nw (.node ⟨11, 0, pl, 0, ⟨#[]⟩, ar, ⟨#[]⟩⟩ [a]) = 3 + nw a := by
  rw [nw_node, show ∀ ks, comb ⟨11, 0, pl, 0, ⟨#[]⟩, ar, ⟨#[]⟩⟩ ks = [wFn, ar, wArrow] ++ (kd ks 0).2 from fun ks => by simp [comb]]
  simp only [List.length_append, List.length_cons, List.length_nil, kd0, kdT_len]
theorem nw_if (pl : Int) (a b c : Tm) : nw (.node ⟨14, 0, pl, 0, ⟨#[]⟩, ⟨#[]⟩, ⟨#[]⟩⟩ [a, b, c]) = 3 + nw a + nw b + nw c := by
  rw [nw_node, show ∀ ks, comb ⟨14, 0, pl, 0, ⟨#[]⟩, ⟨#[]⟩, ⟨#[]⟩⟩ ks = wIf :: ((kd ks 0).2 ++ (wThen :: ((kd ks 1).2 ++ (wElse :: (kd ks 2).2)))) from fun ks => by simp [comb]]
  simp only [List.length_append, List.length_cons, kd0, kd1, kd2, kdT_len]
  omega
theorem nw_try (pl : Int) (ar ex : ByteArray) (a b : Tm) : nw (.node ⟨16, 0, pl, 0, ⟨#[]⟩, ar, ex⟩ [a, b]) = 5 + nw a + nw b := by
  rw [nw_node, show ∀ ks, comb ⟨16, 0, pl, 0, ⟨#[]⟩, ar, ex⟩ ks = wTry :: ((kd ks 0).2 ++ ([wWith, ex, ar, wArrow] ++ (kd ks 1).2)) from fun ks => by simp [comb]]
  simp only [List.length_append, List.length_cons, List.length_nil, kd0, kd1, kdT_len]
  omega
theorem nw_raise (pl : Int) (ex : ByteArray) (a : Tm) : nw (.node ⟨15, 0, pl, 0, ⟨#[]⟩, ⟨#[]⟩, ex⟩ [a]) = 2 + aw 6 a := by
  rw [nw_node, show ∀ ks, comb ⟨15, 0, pl, 0, ⟨#[]⟩, ⟨#[]⟩, ex⟩ ks = [wRaise, ex] ++ asW 6 (kd ks 0) from fun ks => by simp [comb]]
  simp only [List.length_append, List.length_cons, List.length_nil, kd0, aw_eq]
theorem nw_app (pl : Int) (a b : Tm) : nw (node 10 pl [a, b]) = aw 5 a + aw 6 b := by
  unfold node
  rw [nw_node, show ∀ ks, comb ⟨10, 0, pl, 0, ⟨#[]⟩, ⟨#[]⟩, ⟨#[]⟩⟩ ks = asW 5 (kd ks 0) ++ asW 6 (kd ks 1) from fun ks => by simp [comb]]
  rw [List.length_append, kd0, kd1, aw_eq, aw_eq]
theorem nw_pair (pl : Int) (a b : Tm) : nw (node 3 pl [a, b]) = 3 + nw a + nw b := by
  unfold node
  rw [nw_node, show ∀ ks, comb ⟨3, 0, pl, 0, ⟨#[]⟩, ⟨#[]⟩, ⟨#[]⟩⟩ ks = wOpen :: (twoW ks 0 wComma 0 ++ [wShut]) from fun ks => by simp [comb]]
  unfold twoW
  have e : ∀ t : Tm, aw 0 t = nw t := fun t => if_pos (by unfold partN opPartN; repeat' split; all_goals omega)
  simp only [List.length_append, List.length_cons, List.length_nil, kd0, kd1, aw_eq, e]
  omega
theorem aw_zero (t : Tm) : aw 0 t = nw t := if_pos (by unfold partN opPartN; repeat' split; all_goals omega)
/-- Where nothing was thrown, the words of what a part read are no more than the tokens that it took. -/
theorem words_all_le {T : List Tok} : ∀ n : Nat,
    (∀ s r, exprF T n s = some r → NodeW 0 s r) ∧ (∀ ws s q, partsF T n ws s = some q → PartsW s ws q) ∧
    (∀ k s r, k ≤ 4 → levelF T n k s = some r → NodeW ((k : Int) + 1) s r) ∧ (∀ k s a r, k < 4 → loopF T n k s a = some r → LoopW ((k : Int) + 1) (inP k) s a r) ∧
    (∀ s r, applyF T n s = some r → NodeW 5 s r) ∧ (∀ s a r, aloopF T n s a = some r → LoopW 5 5 s a r) ∧
    (∀ s r, unaryF T n s = some r → NodeW 6 s r) := by
  intro n
  induction n with
  | zero => refine ⟨?_, ?_, ?_, ?_, ?_, ?_, ?_⟩ <;> (intros; simp_all [exprF, partsF, levelF, loopF, applyF, aloopF, unaryF])
  | succ n ih =>
    obtain ⟨iE, iP, iL, iO, iA, iB, iU⟩ := ih
    refine ⟨fun s r he => ?_, fun ws s q he => ?_, fun k s r hk he => ?_, fun k s a r hk he => ?_, fun s r he => ?_, fun s a r he => ?_, fun s r he => ?_⟩
    · unfold exprF at he
      split at he
      · rename_i hb; injection he with he; rw [← he]; intro hb'; rw [show ((s, zeroT) : St × Tm).1.bad = s.bad from rfl, hb] at hb'; cases hb'
      split at he
      · obtain ⟨q, hq, he⟩ := Option.map_eq_some_iff.1 he
        rw [← he]; intro hb
        obtain ⟨p1, p2, p3⟩ := iP [wIs, wIn] _ q hq hb
        obtain ⟨g1, g2, _, _⟩ := get_good p1
        obtain ⟨a1, a2, _⟩ := want_good g1
        obtain ⟨a, b, hab⟩ := list2 p2
        refine ⟨a1, ?_⟩
        show aw 0 (.node _ q.2) + s.i ≤ q.1.i
        rw [aw_zero, hab, nw_let]
        have hc : cnt [wIs, wIn] = 2 := by decide +kernel
        rw [hab, hc] at p3
        unfold sumN sumN sumN at p3
        omega
      split at he
      · obtain ⟨q, hq, he⟩ := Option.map_eq_some_iff.1 he
        rw [← he]; intro hb
        obtain ⟨p1, p2, p3⟩ := iP [wIs, wIn] _ q hq hb
        obtain ⟨f1, f2, _, _⟩ := get_good p1
        obtain ⟨g1, g2, _, _⟩ := get_good f1
        obtain ⟨a1, a2, _⟩ := want_good g1
        obtain ⟨a, b, hab⟩ := list2 p2
        refine ⟨a1, ?_⟩
        show aw 0 (.node _ q.2) + s.i ≤ q.1.i
        rw [aw_zero, hab, nw_letrec]
        have hc : cnt [wIs, wIn] = 2 := by decide +kernel
        rw [hab, hc] at p3
        unfold sumN sumN sumN at p3
        omega
      split at he
      · obtain ⟨q, hq, he⟩ := Option.map_eq_some_iff.1 he
        rw [← he]; intro hb
        obtain ⟨p1, p2, p3⟩ := iP [wArrow] _ q hq hb
        obtain ⟨g1, g2, _, _⟩ := get_good p1
        obtain ⟨a1, a2, _⟩ := want_good g1
        obtain ⟨a, hab⟩ := list1 p2
        refine ⟨a1, ?_⟩
        show aw 0 (.node _ q.2) + s.i ≤ q.1.i
        rw [aw_zero, hab, nw_fn]
        have hc : cnt [wArrow] = 1 := by decide +kernel
        rw [hab, hc] at p3
        unfold sumN sumN at p3
        omega
      split at he
      · obtain ⟨q, hq, he⟩ := Option.map_eq_some_iff.1 he
        rw [← he]; intro hb
        obtain ⟨p1, p2, p3⟩ := iP [e0, wThen, wElse] _ q hq hb
        obtain ⟨a1, a2, _⟩ := want_good p1
        obtain ⟨a, b, c, hab⟩ := list3 p2
        refine ⟨a1, ?_⟩
        show aw 0 (.node _ q.2) + s.i ≤ q.1.i
        rw [aw_zero, hab, nw_if]
        have hc : cnt [e0, wThen, wElse] = 2 := by decide +kernel
        rw [hab, hc] at p3
        unfold sumN sumN sumN sumN at p3
        omega
      split at he
      · obtain ⟨q, hq, he⟩ := Option.bind_eq_some_iff.1 he
        obtain ⟨q2, hq2, he⟩ := Option.map_eq_some_iff.1 he
        rw [← he]; intro hb
        obtain ⟨p1, p2, p3⟩ := iP [wArrow] _ q2 hq2 hb
        obtain ⟨f1, f2, _, _⟩ := get_good p1
        obtain ⟨g1, g2, _, _⟩ := get_good f1
        obtain ⟨b1, b2, _⟩ := want_good g1
        obtain ⟨c1, c2, c3⟩ := iP [e0] _ q hq b1
        obtain ⟨a1, a2, _⟩ := want_good c1
        obtain ⟨a, ha⟩ := list1 c2
        obtain ⟨b, hb'⟩ := list1 p2
        refine ⟨a1, ?_⟩
        show aw 0 (.node _ (q.2 ++ q2.2)) + s.i ≤ q2.1.i
        rw [aw_zero, ha, hb']
        show nw (.node _ [a, b]) + s.i ≤ _
        rw [nw_try]
        have hc1 : cnt [wArrow] = 1 := by decide +kernel
        have hc2 : cnt [e0] = 0 := by decide +kernel
        rw [hb', hc1] at p3
        rw [ha, hc2] at c3
        unfold sumN sumN at p3 c3
        omega
      · intro hb
        obtain ⟨l1, l2⟩ := iL 0 s r (by omega) he hb
        have := aw_mono (p := 0) (q := ((0 : Nat) : Int) + 1) (by omega) r.2
        exact ⟨l1, by omega⟩
    · cases ws with
      | nil =>
        unfold partsF at he
        injection he with he
        rw [← he]
        exact fun hb => ⟨hb, rfl, by show 0 + 0 + s.i ≤ s.i; omega⟩
      | cons w ws =>
        unfold partsF at he
        obtain ⟨r, hr, he⟩ := Option.bind_eq_some_iff.1 he
        obtain ⟨q1, hq, he⟩ := Option.map_eq_some_iff.1 he
        rw [← he]
        intro hb
        obtain ⟨p1, p2, p3⟩ := iP ws r.1 q1 hq hb
        obtain ⟨n1, n2⟩ := iE _ r hr p1
        rw [aw_zero] at n2
        refine ⟨?_, by show q1.2.length + 1 = ws.length + 1; omega, ?_⟩
        · by_cases hwe : w = e0
          · rw [if_pos hwe] at n1; exact n1
          · rw [if_neg hwe] at n1; exact (want_good n1).1
        · show (nw r.2 + sumN q1.2) + ((if w = e0 then 0 else 1) + cnt ws) + s.i ≤ q1.1.i
          by_cases hwe : w = e0
          · rw [if_pos hwe] at n2 ⊢; omega
          · rw [if_neg hwe] at n1 n2 ⊢
            obtain ⟨g1, g2, _⟩ := want_good n1
            omega
    · unfold levelF at he
      split at he
      · rename_i h4
        subst h4
        exact iA s r he
      · rename_i h4
        obtain ⟨r1, h1, h2⟩ := Option.bind_eq_some_iff.1 he
        intro hb
        have hb1 : r1.1.bad = false := by
          cases hbb : r1.1.bad
          · rfl
          · have := loop_bad T hbb h2
            rw [this, hbb] at hb
            cases hb
        obtain ⟨n1, n2⟩ := iL _ s r1 (by omega) h1 hb1
        obtain ⟨l1, l2⟩ := iO k r1.1 r1.2 r (by omega) h2 hb
        have h3 := aw_mono (p := inP k) (q := ((k + 1 : Nat) : Int) + 1) (by unfold inP; split <;> omega) r1.2
        exact ⟨n1, by omega⟩
    · unfold loopF at he
      split at he
      · rename_i hc
        obtain ⟨r1, h1, h2⟩ := Option.bind_eq_some_iff.1 he
        have hpa := put_aw hc.2 hk a r1.2
        have e2 : ((k + 1 : Nat) : Int) + 1 = (k : Int) + 2 := by omega
        intro hb
        split at h2
        · injection h2 with h2
          rw [← h2] at hb ⊢
          obtain ⟨n1, n2⟩ := iL _ _ r1 (by omega) h1 hb
          rw [e2] at n2
          have n2' : aw ((k : Int) + 2) r1.2 + (s.i + 1) ≤ r1.1.i := n2
          refine ⟨n1, ?_⟩
          show aw ((k : Int) + 1) (putF (textOf T s.i) a r1.2) + s.i ≤ aw (inP k) a + r1.1.i
          omega
        · rename_i hk2
          have hb1 : r1.1.bad = false := by
            cases hbb : r1.1.bad
            · rfl
            · have := loop_bad T hbb h2
              rw [this, hbb] at hb
              cases hb
          obtain ⟨n1, n2⟩ := iL _ _ r1 (by omega) h1 hb1
          obtain ⟨l1, l2⟩ := iO k r1.1 _ r hk h2 hb
          rw [e2] at n2
          have n2' : aw ((k : Int) + 2) r1.2 + (s.i + 1) ≤ r1.1.i := n2
          have hip : inP k = (k : Int) + 1 := if_neg hk2
          rw [hip] at l2 hpa ⊢
          exact ⟨n1, by omega⟩
      · injection he with he
        rw [← he]
        exact fun hb => ⟨hb, by show aw ((k : Int) + 1) a + s.i ≤ aw (inP k) a + s.i; have := aw_mono (p := (k : Int) + 1) (q := inP k) (by unfold inP; split <;> omega) a; omega⟩
    · unfold applyF at he
      obtain ⟨r1, h1, h2⟩ := Option.bind_eq_some_iff.1 he
      intro hb
      have hb1 : r1.1.bad = false := by
        cases hbb : r1.1.bad
        · rfl
        · have := aloop_bad T hbb h2
          rw [this, hbb] at hb
          cases hb
      obtain ⟨n1, n2⟩ := iU s r1 h1 hb1
      obtain ⟨l1, l2⟩ := iB r1.1 r1.2 r h2 hb
      have := aw_mono (p := 5) (q := 6) (by omega) r1.2
      exact ⟨n1, by omega⟩
    · unfold aloopF at he
      split at he
      · rename_i hc
        obtain ⟨r1, h1, h2⟩ := Option.bind_eq_some_iff.1 he
        intro hb
        have hb1 : r1.1.bad = false := by
          cases hbb : r1.1.bad
          · rfl
          · have := aloop_bad T hbb h2
            rw [this, hbb] at hb
            cases hb
        obtain ⟨n1, n2⟩ := iU s r1 h1 hb1
        obtain ⟨l1, l2⟩ := iB r1.1 _ r h2 hb
        have e5 : aw 5 (node 10 a.h.pl [a, r1.2]) = nw (node 10 a.h.pl [a, r1.2]) := aw0 (by show (5 : Int) ≤ partN 10 0; decide)
        rw [e5, nw_app] at l2
        exact ⟨n1, by omega⟩
      · injection he with he
        rw [← he]
        exact fun hb => ⟨hb, Nat.le_refl _⟩
    · unfold unaryF at he
      split at he
      · rename_i hb; injection he with he; rw [← he]; intro hb'; rw [show ((s, zeroT) : St × Tm).1.bad = s.bad from rfl, hb] at hb'; cases hb'
      rename_i hnb
      have hsb : s.bad = false := by cases h : s.bad; rfl; exact absurd h hnb
      split at he
      · rename_i hp
        obtain ⟨r1, h1, he⟩ := Option.map_eq_some_iff.1 he
        rw [← he]; intro hb
        obtain ⟨n1, n2⟩ := iU _ r1 h1 hb
        have n2' : aw 6 r1.2 + (s.i + 1) ≤ r1.1.i := n2
        refine ⟨hsb, ?_⟩
        show aw 6 (node (4 + preN (textOf T s.i)) (plA T s.i) [r1.2]) + s.i ≤ r1.1.i
        rw [pre_comb hp]
        omega
      split at he
      · obtain ⟨r1, h1, he⟩ := Option.map_eq_some_iff.1 he
        rw [← he]; intro hb
        obtain ⟨n1, n2⟩ := iU _ r1 h1 hb
        obtain ⟨g1, g2, _, _⟩ := get_good n1
        have g2' : (getF T ⟨s.i + 1, s.bad⟩ 3).i = s.i + 1 + 1 := g2
        refine ⟨hsb, ?_⟩
        show aw 6 (.node ⟨15, 0, plA T s.i, 0, ⟨#[]⟩, ⟨#[]⟩, getS T ⟨s.i + 1, s.bad⟩ 3⟩ [r1.2]) + s.i ≤ r1.1.i
        rw [aw0 (by show (6 : Int) ≤ partN 15 0; decide), nw_raise]
        omega
      split at he
      · injection he with he
        rw [← he]
        intro _
        refine ⟨hsb, ?_⟩
        show aw 6 (.node ⟨1, 0, plA T s.i, _, ⟨#[]⟩, ⟨#[]⟩, ⟨#[]⟩⟩ []) + s.i ≤ s.i + 1
        rw [aw0 (by show (6 : Int) ≤ partN 1 0; decide), nw_node]
        simp [comb]
        omega
      split at he
      · injection he with he
        rw [← he]
        intro _
        refine ⟨hsb, ?_⟩
        show aw 6 (.node ⟨2, 0, plA T s.i, 0, _, ⟨#[]⟩, ⟨#[]⟩⟩ []) + s.i ≤ s.i + 1
        rw [aw0 (by show (6 : Int) ≤ partN 2 0; decide), nw_node]
        simp [comb]
        omega
      · obtain ⟨r1, h1, he⟩ := Option.bind_eq_some_iff.1 he
        split at he
        · injection he with he
          rw [← he]
          intro hb
          obtain ⟨w1, w2, _⟩ := want_good hb
          obtain ⟨n1, n2⟩ := iE _ r1 h1 w1
          obtain ⟨a1, a2, _⟩ := want_good n1
          rw [aw_zero] at n2
          have := aw_le 6 r1.2
          exact ⟨hsb, by show aw 6 r1.2 + s.i ≤ (wantF T r1.1 wShut).i; omega⟩
        · rename_i hcm
          obtain ⟨q1, h2, he⟩ := Option.map_eq_some_iff.1 he
          rw [← he]
          intro hb
          obtain ⟨w1, w2, _⟩ := want_good hb
          obtain ⟨m1, m2⟩ := iE _ q1 h2 w1
          have m1' : r1.1.bad = false := m1
          obtain ⟨n1, n2⟩ := iE _ r1 h1 m1'
          obtain ⟨a1, a2, _⟩ := want_good n1
          rw [aw_zero] at n2 m2
          have m2' : nw q1.2 + (r1.1.i + 1) ≤ q1.1.i := m2
          refine ⟨hsb, ?_⟩
          show aw 6 (node 3 (plA T s.i) [r1.2, q1.2]) + s.i ≤ (wantF T q1.1 wShut).i
          rw [aw0 (by show (6 : Int) ≤ partN 3 0; decide), nw_pair]
          omega
end Parse
end Go.Proofs.YtkcadkjpneoobaaGreatDoor
