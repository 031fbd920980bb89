/- What is read, shown, read and shown again: mathematics. -/
import Derived.Test.YtkcadkjpneoobaaGreatDoorParseWords
import Derived.Test.YtkcadkjpneoobaaGreatDoorParseProgG
import Derived.Test.YtkcadkjpneoobaaGreatDoorShowBackP
namespace Go.Proofs.YtkcadkjpneoobaaGreatDoor
open Go.RowKit
set_option linter.unusedVariables false
set_option linter.unusedSimpArgs false
namespace Show
open Parse
open Token (Tok tel jb lex endT)
open Term (Tm Hd tget wt wts okT okK sameT sameK sameH mayT wts_cons wts_nil)
open Words (nameB exnB ints)

theorem comb_same {a b : Hd} (h : sameH a b = true) (ks : List (Int × List ByteArray)) : comb a ks = comb b ks ∧ partN a.k a.op = partN b.k b.op := by
  unfold sameH at h
  obtain ⟨h1, h2, h3, h4, h5, h6⟩ := of_decide_eq_true h
  unfold comb
  rw [h1, h2, h3, h4, h5, h6]
  exact ⟨rfl, rfl⟩
theorem same_words : ∀ (m : Nat) (x t : Tm), wt x ≤ m → sameT x t = true → wordsT x = wordsT t ∧ wt x = wt t
  | 0, x, t, h, _ => by have := Term.wt_pos x; omega
  | m + 1, x, t, h, hs => by
    have hk : ∀ (n : Nat) (ks us : List Tm), wts ks ≤ n → n ≤ m → ks.length = us.length → sameK ks us = true → wordsK ks = wordsK us ∧ wts ks = wts us := by
      intro n ks
      induction ks generalizing n with
      | nil =>
        intro us _ _ hl _
        have : us = [] := List.eq_nil_of_length_eq_zero hl.symm
        rw [this]
        exact ⟨rfl, rfl⟩
      | cons k ks ih =>
        intro us h1 h2 hl hsk
        match us, hl, hsk with
        | u :: us, hl, hsk =>
          rw [wts_cons] at h1
          rw [Term.sameK_cons, Bool.and_eq_true] at hsk
          obtain ⟨e1, e2⟩ := same_words m k u (by omega) hsk.1
          obtain ⟨e3, e4⟩ := ih (wts ks) us (Nat.le_refl _) (by omega) (by simpa using hl) hsk.2
          have hsh := hsk.1
          rw [Term.sameT_eq, Bool.and_eq_true, Bool.and_eq_true] at hsh
          have e5 := (comb_same hsh.1.1 []).2
          rw [wordsK_cons, wordsK_cons, e1, e3, e5, wts_cons, wts_cons, e2, e4]
          exact ⟨rfl, rfl⟩
    rw [Term.sameT_eq, Bool.and_eq_true, Bool.and_eq_true] at hs
    obtain ⟨e1, e2⟩ := hk (wts x.ks) x.ks t.ks (Nat.le_refl _) (by have := Term.wt_ks x; omega) (of_decide_eq_true hs.1.2) hs.2
    rw [wordsT_eq, wordsT_eq, e1, (comb_same hs.1.1 _).1, Term.wt_ks, Term.wt_ks, e2]
    exact ⟨rfl, rfl⟩
/-- How a program's text came to it. -/
theorem prog_parts {xs : List Int} {es : List Tok} {t : Tm} (h : progRes xs = .good es t) :
    ∃ (ts : List Tok) (r : St × Tm), xs.length ≤ 65536 ∧ lex xs 0 = .inr ts ∧ ts.length ≤ 4000 ∧ exprF (ts ++ [endT xs.length]) (fuelOf (ts ++ [endT xs.length])) (exnsF (ts ++ [endT xs.length]) (ts ++ [endT xs.length]).length ⟨0, false⟩).2 = some r ∧ r.1.bad = false ∧
      es = (exnsF (ts ++ [endT xs.length]) (ts ++ [endT xs.length]).length ⟨0, false⟩).1 ∧ t = r.2 := by
  unfold progRes at h
  split at h
  · cases h
  rename_i hx
  cases hl : lex xs 0 with
  | inl j => rw [hl] at h; cases h
  | inr ts =>
    rw [hl] at h
    have h' : qtoksRes ts xs.length = .good es t := h
    unfold qtoksRes at h'
    split at h'
    · cases h'
    rename_i ht
    obtain ⟨r, hr⟩ := prog_enough (good_of_lex hl).row
    rw [hr] at h'
    unfold qresOf at h'
    simp only at h'
    split at h'
    · rename_i hc
      injection h' with h1 h2
      exact ⟨ts, r, by omega, rfl, by omega, hr, hc.1, h1.symm, h2.symm⟩
    · cases h'
/-- What came of a text of few tokens. -/
theorem prog_may {xs : List Int} {es : List Tok} {t : Tm} (h : progRes xs = .good es t) :
    ∃ ts : List Tok, lex xs 0 = .inr ts ∧ ts.length ≤ 4000 ∧ okT t = true ∧ (∀ u ∈ es, u.k = 3 ∧ exnB u.s = true) ∧ (wordsT t).length + 3 * es.length ≤ ts.length := by
  obtain ⟨ts, r, hx, hl, ht, hr, hb, he, htr⟩ := prog_parts h
  have hG := good_of_lex hl
  have hT : 0 < (ts ++ [endT xs.length]).length := by simp
  have hl0 := exns_lt hG.row (ts ++ [endT xs.length]).length ⟨0, false⟩ hT
  have hg0 := exns_good hG (ts ++ [endT xs.length]).length ⟨0, false⟩ hT
  have hTl : (ts ++ [endT xs.length]).length = ts.length + 1 := by simp
  generalize exnsF (ts ++ [endT xs.length]) (ts ++ [endT xs.length]).length ⟨0, false⟩ = q at *
  subst he htr
  obtain ⟨_, n2, n3, _, _⟩ := (nodes_all hG (fuelOf (ts ++ [endT xs.length]))).1 q.2 r hl0 hr hb
  obtain ⟨w1, w2⟩ := (words_all_le (T := ts ++ [endT xs.length]) (fuelOf (ts ++ [endT xs.length]))).1 q.2 r hr hb
  obtain ⟨_, q2, q3⟩ := hg0 w1
  have hlt := (lt_all _ hG.row _).1 q.2 r hl0 hr
  have q2' : q.2.i = 0 + 3 * q.1.length := q2
  rw [aw_zero] at w2
  have w2' : (wordsT r.2).length + q.2.i ≤ r.1.i := w2
  exact ⟨ts, hl, ht, n3, q3, by omega⟩
def texE (es : List Tok) : List ByteArray := es.map fun u => u.s
theorem stays {xs : List Int} {es : List Tok} {t : Tm} (hx : xs.length ≤ 2000) (h : progRes xs = .good es t) :
    mayP (texE es) t = true ∧ (jb (exW (texE es) ++ wordsT t)).size ≤ 65536 ∧
    ∃ us x, progRes (ints (bl (jb (exW (texE es) ++ wordsT t)))) = .good us x ∧ sameT x t = true ∧ texE us = texE es ∧ mayP (texE us) x = true ∧ exW (texE us) ++ wordsT x = exW (texE es) ++ wordsT t := by
  obtain ⟨ts, hl, ht, hok, hex, hwl⟩ := prog_may h
  obtain ⟨ts', hl', hlen, _, _, hwt, _⟩ := prog_good (by omega) h
  have e : ts' = ts := by rw [hl] at hl'; injection hl' with e; exact e.symm
  subst e
  have hae : allExn (texE es) = true := by
    unfold allExn texE
    rw [List.all_eq_true]
    intro y hy
    obtain ⟨u, hu, rfl⟩ := List.mem_map.1 hy
    exact (hex u hu).2
  have hm : mayT t = true := by unfold mayT; rw [hok, decide_eq_true (by omega)]; rfl
  have hwe : (exW (texE es) ++ wordsT t).length ≤ 2000 := by
    rw [List.length_append, exW_len]
    unfold texE
    rw [List.length_map]
    omega
  have hsh : Short (exW (texE es) ++ wordsT t) := by
    intro s hs
    rcases List.mem_append.1 hs with hs | hs
    · exact exW_short hae s hs
    · exact words_short _ t (Nat.le_refl _) hok s hs
  have hsz := jb_size _ hsh
  obtain ⟨us, x, h1, h2, h3, _⟩ := show_back_prog hok hae (by omega) (by omega)
  obtain ⟨us2, _, _, hokx, _, _⟩ := prog_may h1
  obtain ⟨w1, w2⟩ := same_words _ x t (Nat.le_refl _) h2
  have h3' : texE us = texE es := h3
  refine ⟨by unfold mayP; rw [hm, hae]; rfl, by omega, us, x, h1, h2, h3', ?_, by rw [h3', w1]⟩
  unfold mayP mayT
  rw [h3', hae, hokx, w2, decide_eq_true (by omega)]
  rfl
end Show
end Go.Proofs.YtkcadkjpneoobaaGreatDoor
