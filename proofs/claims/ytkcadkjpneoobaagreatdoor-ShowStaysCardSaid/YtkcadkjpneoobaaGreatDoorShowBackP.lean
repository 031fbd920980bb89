/- What is shown is read as the same: programs. -/
import Derived.Test.YtkcadkjpneoobaaGreatDoorGShowK
import Derived.Test.YtkcadkjpneoobaaGreatDoorGShowC
import Derived.Test.YtkcadkjpneoobaaGreatDoorParseProgM
namespace Go.Proofs.YtkcadkjpneoobaaGreatDoor
open Go.RowKit
set_option linter.unusedVariables false
set_option linter.unusedSimpArgs false
namespace Show
open Parse
open Token (Tok tel jb lex lex_tok lex_blank lex_nil pieceN pieceK tokAt pre endT letK digK)
open Term (Tm Hd tget wt wts okT okK sameT sameK sameH)
open Words (nameB exnB numB kwN ints)

/-- Exceptions' words are read as what they declare. -/
theorem exns_all {T : List Tok} : ∀ (es : List ByteArray) (i n : Nat), At T i (exW es) → allExn es = true → es.length ≤ n → textOf T (i + 3 * es.length) ≠ wExn →
    ∃ us : List Tok, exnsF T n ⟨i, false⟩ = (us, ⟨i + 3 * es.length, false⟩) ∧ (us.map fun u => u.s) = es ∧ ∀ u ∈ us, u.k = 3
  | [], i, n, _, _, _, h => ⟨[], exns_stop h n, rfl, fun u hu => by cases hu⟩
  | x :: es, i, 0, _, _, hn, _ => by simp at hn
  | x :: es, i, n + 1, ha, he, hn, h => by
    unfold allExn at he
    rw [List.all_cons, Bool.and_eq_true] at he
    have ha' : At T i (wExn :: x :: wSemi :: exW es) := ha
    obtain ⟨a0, b0⟩ := ha'.cons
    obtain ⟨a1, b1⟩ := b0.cons
    obtain ⟨a2, b2⟩ := b1.cons
    have kx := kind_exn he.1
    rw [List.length_cons, show i + 3 * (es.length + 1) = i + 3 + 3 * es.length from by omega] at h
    obtain ⟨us, h1, h2, h3⟩ := exns_all es (i + 3) n b2 he.2 (by simpa using hn) h
    refine ⟨tel T (i + 1) :: us, ?_, ?_, ?_⟩
    · rw [exns_step (At.text a0 (.inl (by decide +kernel))) (a1.1.trans kx) (At.text a2 (.inr (by decide +kernel))), h1]
      rw [List.length_cons, show i + 3 * (es.length + 1) = i + 3 + 3 * es.length from by omega]
    · rw [List.map_cons, h2, a1.2]
    · intro u hu
      rcases List.mem_cons.1 hu with rfl | hu
      · exact a1.1.trans kx
      · exact h3 u hu
theorem exW_all : ∀ es : List ByteArray, allExn es = true → AllP (exW es)
  | [], _ => fun w hw => by cases hw
  | x :: es, h => by
    unfold allExn at h
    rw [List.all_cons, Bool.and_eq_true] at h
    have ih := exW_all es h.2
    intro w hw
    have hw' : w ∈ wExn :: x :: wSemi :: exW es := hw
    rcases List.mem_cons.1 hw' with rfl | hw1
    · exact self_const (by simp [wordsL])
    · rcases List.mem_cons.1 hw1 with rfl | hw2
      · exact self_exn h.1
      · rcases List.mem_cons.1 hw2 with rfl | hw3
        · exact self_const (by simp [wordsL])
        · exact ih w hw3
/-- THERE AND BACK, for programs. -/
theorem show_back_prog {es : List ByteArray} {t : Tm} (hok : okT t = true) (he : allExn es = true) (hn : (exW es ++ wordsT t).length ≤ 4000) (hz : (jb (exW es ++ wordsT t)).size ≤ 65536) :
    ∃ us x, progRes (ints (bl (jb (exW es ++ wordsT t)))) = .good us x ∧ sameT x t = true ∧ (us.map fun u => u.s) = es ∧ ∀ u ∈ us, u.k = 3 := by
  have hne : exW es ++ wordsT t ≠ [] := by
    intro h
    exact words_nil hok (List.append_eq_nil_iff.1 h).2
  have hall : AllP (exW es ++ wordsT t) := by
    intro w hw
    rcases List.mem_append.1 hw with hw | hw
    · exact exW_all es he w hw
    · exact words_all _ t (Nat.le_refl _) hok w hw
  obtain ⟨us, hlu, hku⟩ := lexIs_words (exW es ++ wordsT t) hne hall 0
  have hil : (ints (bl (jb (exW es ++ wordsT t)))).length = (jb (exW es ++ wordsT t)).size := by rw [Words.ints_length]; rfl
  have hel := exW_len es
  have hul : us.length = (exW es ++ wordsT t).length := by
    have := congrArg List.length hku
    rw [ks_len, List.length_map] at this
    exact this
  have hrow := (good_of_lex hlu).row
  have hat : At (us ++ [endT (ints (bl (jb (exW es ++ wordsT t)))).length]) 0 (exW es ++ wordsT t) := by
    intro j hj
    obtain ⟨h1, h2⟩ := tel_kat (us := [endT (ints (bl (jb (exW es ++ wordsT t)))).length]) (show j < us.length by omega)
    have hk : kat (ks us) j = (kindW ((exW es ++ wordsT t).getD j ⟨#[]⟩), (exW es ++ wordsT t).getD j ⟨#[]⟩) := by
      rw [hku]
      unfold kat
      rw [List.getD_eq_getElem?_getD, List.getElem?_map, List.getElem?_eq_getElem hj, List.getD_eq_getElem?_getD, List.getElem?_eq_getElem hj]
      rfl
    rw [hk] at h1 h2
    rw [Nat.zero_add]
    exact ⟨h1, h2⟩
  have hend : (tel (us ++ [endT (ints (bl (jb (exW es ++ wordsT t)))).length]) (3 * es.length + (wordsT t).length)).k = 6 := by
    rw [← hel, ← List.length_append, ← hul, tel_end]; rfl
  have hTl : (us ++ [endT (ints (bl (jb (exW es ++ wordsT t)))).length]).length = us.length + 1 := by simp
  rw [List.length_append, hel] at hul
  rw [List.length_append, hel] at hn
  have hfin : ∀ (vs : List Tok) (x : Tm), exnsF (us ++ [endT (ints (bl (jb (exW es ++ wordsT t)))).length]) (us ++ [endT (ints (bl (jb (exW es ++ wordsT t)))).length]).length ⟨0, false⟩ = (vs, ⟨3 * es.length, false⟩) → EE (us ++ [endT (ints (bl (jb (exW es ++ wordsT t)))).length]) (3 * es.length) (3 * es.length + (wordsT t).length) x → progRes (ints (bl (jb (exW es ++ wordsT t)))) = .good vs x := by
    intro vs x hv hx
    unfold progRes
    rw [if_neg (by omega), hlu]
    show qtoksRes us _ = _
    unfold qtoksRes
    rw [if_neg (by omega), hv]
    show qresOf _ vs (exprF _ _ ⟨3 * es.length, false⟩) = _
    obtain ⟨r, hr⟩ := enough_at hrow (i := 3 * es.length) (by omega)
    have e := hx.det hr
    rw [hr, e]
    exact if_pos ⟨rfl, hend⟩
  generalize us ++ [endT (ints (bl (jb (exW es ++ wordsT t)))).length] = T at *
  obtain ⟨hat1, hat2⟩ := hat.app
  rw [hel, Nat.zero_add] at hat2
  obtain ⟨x, sx, rx⟩ := reads_all _ t (Nat.le_refl _) hok _ (3 * es.length) hat2
  have hx := rx.e (partN_pos' _ _) (stops_end hend 0)
  obtain ⟨vs, v1, v2, v3⟩ := exns_all es 0 T.length hat1 he (by omega) (by rw [Nat.zero_add]; exact hx.not_exn)
  rw [Nat.zero_add] at v1
  exact ⟨vs, x, hfin vs x v1 hx, sx, v2, v3⟩
end Show
end Go.Proofs.YtkcadkjpneoobaaGreatDoor
