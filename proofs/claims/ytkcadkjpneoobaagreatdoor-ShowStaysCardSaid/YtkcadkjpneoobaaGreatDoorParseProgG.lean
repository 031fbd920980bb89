/- A program's text: what comes of it may be shown. -/
import Derived.Test.YtkcadkjpneoobaaGreatDoorParseProgM
import Derived.Test.YtkcadkjpneoobaaGreatDoorGParseK
import Derived.Test.YtkcadkjpneoobaaGreatDoorGParseA
namespace Go.Proofs.YtkcadkjpneoobaaGreatDoor
open Go.RowKit
set_option linter.unusedVariables false
set_option linter.unusedSimpArgs false
namespace Parse
open Token (Tok tel lex endT)
open Term (Tm Hd wt okT)
open Words (exnB)

theorem exns_lt {T : List Tok} (hR : Row T) : ∀ (n : Nat) (s : St), s.i < T.length → (exnsF T n s).2.i < T.length
  | 0, s, h => h
  | n + 1, s, h => by
    have h1 := want_lt T hR (s := s) (w := wExn) (by decide) h
    have h2 := get_lt T hR (s := wantF T s wExn) (k := 3) (by decide) h1
    have h3 := want_lt T hR (s := getF T (wantF T s wExn) 3) (w := wSemi) (by decide) h2
    rw [exnsF]
    split
    · exact h
    · split
      · exact h3
      · exact exns_lt hR n _ h3
theorem exns_good {T : List Tok} (hG : Good T) : ∀ (n : Nat) (s : St), s.i < T.length → (exnsF T n s).2.bad = false → s.bad = false ∧ (exnsF T n s).2.i = s.i + 3 * (exnsF T n s).1.length ∧ ∀ u ∈ (exnsF T n s).1, u.k = 3 ∧ exnB u.s = true
  | 0, s, _, h => ⟨h, rfl, fun u hu => by cases hu⟩
  | n + 1, s, hs, h => by
    have h1 := want_lt T hG.row (s := s) (w := wExn) (by decide) hs
    have h2 := get_lt T hG.row (s := wantF T s wExn) (k := 3) (by decide) h1
    have h3 := want_lt T hG.row (s := getF T (wantF T s wExn) 3) (w := wSemi) (by decide) h2
    rw [exnsF] at h ⊢
    by_cases hc : s.bad = true ∨ textOf T s.i ≠ wExn
    · rw [if_pos hc] at h ⊢
      exact ⟨h, rfl, fun u hu => by cases hu⟩
    · rw [if_neg hc] at h ⊢
      by_cases hb : (wantF T (getF T (wantF T s wExn) 3) wSemi).bad = true
      · rw [if_pos hb] at h
        exact absurd (hb.symm.trans h) (by decide)
      · rw [if_neg hb] at h ⊢
        have hb' : (wantF T (getF T (wantF T s wExn) 3) wSemi).bad = false := by simpa using hb
        obtain ⟨g1, g2, g3⟩ := want_good hb'
        obtain ⟨k1, k2, k3, _⟩ := get_good g1
        obtain ⟨m1, m2, m3⟩ := want_good k1
        obtain ⟨i1, i2, i3⟩ := exns_good hG n _ h3 h
        refine ⟨m1, ?_, ?_⟩
        · show (exnsF T n _).2.i = s.i + 3 * (_ + 1)
          rw [i2]
          omega
        · intro u hu
          rw [m2] at h1 k3
          rcases List.mem_cons.1 hu with rfl | hu
          · exact ⟨k3, (hG.good _ h1 (by omega)).exn k3⟩
          · exact i3 u hu
/-- What a program's text is made of. -/
theorem prog_good {xs : List Int} {es : List Tok} {t : Tm} (hx : xs.length ≤ 4000) (h : progRes xs = .good es t) :
    ∃ ts, lex xs 0 = .inr ts ∧ ts.length ≤ xs.length ∧ okT t = true ∧ PlT (ts ++ [endT xs.length]) t ∧ wt t + 1 + 6 * es.length ≤ 2 * ts.length ∧ ∀ u ∈ es, u.k = 3 ∧ exnB u.s = true := by
  unfold progRes at h
  rw [if_neg (by omega)] at h
  cases hl : lex xs 0 with
  | inl j => rw [hl] at h; cases h
  | inr ts =>
    rw [hl] at h
    have h' : qtoksRes ts xs.length = .good es t := h
    have hlen := Token.lex_len hl
    unfold qtoksRes at h'
    rw [if_neg (by omega)] at h'
    have hG := good_of_lex hl
    have hT : 0 < (ts ++ [endT xs.length]).length := by simp
    have hl0 := exns_lt hG.row (ts ++ [endT xs.length]).length ⟨0, false⟩ hT
    have hg0 := exns_good hG (ts ++ [endT xs.length]).length ⟨0, false⟩ hT
    have hTl : (ts ++ [endT xs.length]).length = ts.length + 1 := by simp
    generalize exnsF (ts ++ [endT xs.length]) (ts ++ [endT xs.length]).length ⟨0, false⟩ = q at h' hl0 hg0
    unfold qresOf at h'
    split at h'
    · cases h'
    · rename_i r hr
      split at h'
      · rename_i hc
        injection h' with he ht
        subst he ht
        have hqb : q.2.bad = false := by
          cases hb : q.2.bad with
          | false => rfl
          | true =>
            have e := expr_bad (ts ++ [endT xs.length]) hb hr
            rw [e, hb] at hc
            exact absurd hc.1 (by decide)
        obtain ⟨_, q2, q3⟩ := hg0 hqb
        obtain ⟨n1, n2, n3, n4, n5⟩ := (nodes_all hG (fuelOf (ts ++ [endT xs.length]))).1 q.2 r hl0 hr hc.1
        have hlt := (lt_all _ hG.row _).1 q.2 r hl0 hr
        refine ⟨ts, rfl, hlen, n3, n4, ?_, q3⟩
        have q2' : q.2.i = 0 + 3 * q.1.length := q2
        omega
      · cases h'
/-- The fuel is enough for a program. -/
theorem prog_enough {T : List Tok} (hR : Row T) : ∃ r, exprF T (fuelOf T) (exnsF T T.length ⟨0, false⟩).2 = some r := by
  have hlt := exns_lt hR T.length ⟨0, false⟩ hR.ends.1
  obtain ⟨r, hr, _⟩ := (enough T hR (fuelOf T)).1 _ hlt (by
    unfold fuelOf
    cases hb : (exnsF T T.length ⟨0, false⟩).2.bad with
    | true => rw [need_bad T hb]; omega
    | false => rw [need_good T hb]; omega)
  exact ⟨r, hr⟩
/-- What isn't a program's text, of that length, is an error of form. -/
theorem prog_bad {xs : List Int} {a k : Int} (hx : xs.length ≤ 4000) (h : progRes xs = .bad a k) : k = 2 := by
  unfold progRes at h
  rw [if_neg (by omega)] at h
  cases hl : lex xs 0 with
  | inl j => rw [hl] at h; injection h with _ h; exact h.symm
  | inr ts =>
    rw [hl] at h
    have h' : qtoksRes ts xs.length = .bad a k := h
    have hlen := Token.lex_len hl
    unfold qtoksRes at h'
    rw [if_neg (by omega)] at h'
    obtain ⟨r, hr⟩ := prog_enough (good_of_lex hl).row
    rw [hr] at h'
    unfold qresOf at h'
    simp only at h'
    split at h'
    · cases h'
    · injection h' with _ h'; exact h'.symm
end Parse
end Go.Proofs.YtkcadkjpneoobaaGreatDoor
