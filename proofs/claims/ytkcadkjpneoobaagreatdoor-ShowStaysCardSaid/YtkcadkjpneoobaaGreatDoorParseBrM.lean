/- A text in brackets, and behind two exceptions that are declared: what reading it comes to. -/
import Derived.Test.YtkcadkjpneoobaaGreatDoorGParseK
namespace Go.Proofs.YtkcadkjpneoobaaGreatDoor
open Go.RowKit
set_option linter.unusedVariables false
set_option linter.unusedSimpArgs false
namespace Parse
open Token (Tok tel lex lex_tok lex_app lex_far lex_nil lex_blank pre tokAt pieceK pieceN endT two)
open Term (Tm Hd sameT sameK sameH)
open Chars (cls el)

/-- A whole text in brackets. -/
theorem brackets_res {xs : List Int} {x : Tm} (hx : termRes xs = .good x) (hlx : xs.length ≤ 2000) : ∃ u, termRes (40 :: (xs ++ [41])) = .good u ∧ sameT x u = true := by
  obtain ⟨ta, hla, hna, hWa⟩ := whole_of hx
  have e1 : LexIs ([] : List Int) [] := fun a => ⟨[], lex_nil a, rfl⟩
  have s1 : strOfNums [40] = wOpen := by kernel_rfl
  have s2 : strOfNums [41] = wShut := by kernel_rfl
  have h41 := lexIs_bracket (c := 41) (.inr rfl) e1
  rw [s2] at h41
  have hb := lexIs_bracket (c := 40) (.inl rfl) (lexIs_app (lexIs_of hla) (halt_bracket 41 (.inr rfl) []) h41)
  rw [s1] at hb
  obtain ⟨us, hlu, hku⟩ := hb 0
  have hulen : us.length = ta.length + 2 := by
    have := congrArg List.length hku
    rw [ks_len] at this
    simp only [List.length_cons, List.length_append, ks_len, List.length_nil] at this
    omega
  have hJ : (40 :: (xs ++ [41]) : List Int).length = xs.length + 2 := by simp
  have hR := row2_of (m := (40 :: (xs ++ [41]) : List Int).length) hku
  have hfin : ∀ (t : Tm), EE (us ++ [endT (40 :: (xs ++ [41]) : List Int).length]) 0 us.length t → termRes (40 :: (xs ++ [41])) = .good t := by
    intro t ht
    unfold termRes
    rw [if_neg (by omega), hlu]
    show toksRes us _ = _
    unfold toksRes
    rw [if_neg (by omega)]
    obtain ⟨r, hr⟩ := enough0 (good_of_lex hlu).row
    have e := ht.det hr
    rw [hr, e]
    exact if_pos ⟨rfl, by show (tel _ us.length).k = 6; rw [tel_end]; rfl⟩
  generalize us ++ [endT (40 :: (xs ++ [41]) : List Int).length] = T at *
  have hll : ((5, wOpen) :: (ks ta ++ [(5, wShut)]) : List (Int × ByteArray)).length = us.length := by
    simp only [List.length_cons, List.length_append, ks_len, List.length_nil]
    omega
  have hend : (tel T us.length).k = 6 := by rw [← hll]; exact hR.fin
  have k0 := hR.text5 (i := 0) (w := wOpen) (by rw [hll]; omega) rfl
  have ka : ∀ i, i < ta.length → (tel T (i + 1)).k = (tel ta i).k ∧ (tel T (i + 1)).s = (tel ta i).s := by
    intro i hi
    obtain ⟨h1, h2⟩ := hR.tok (i + 1) (by rw [hll]; omega)
    have e : kat ((5, wOpen) :: (ks ta ++ [(5, wShut)])) (i + 1) = kat (ks ta) i := by
      show kat (ks ta ++ [(5, wShut)]) i = _
      exact kat_left (by rw [ks_len]; exact hi)
    rw [e] at h1 h2
    have h3 := tel_kat (us := []) hi
    rw [List.append_nil] at h3
    exact ⟨h1.trans h3.1.symm, h2.trans h3.2.symm⟩
  have kc := hR.text5 (i := ta.length + 1) (w := wShut) (by rw [hll]; omega) (by
    show kat (ks ta ++ [(5, wShut)]) ta.length = _
    rw [kat_right (i := 0) (by rw [ks_len]; omega)]
    rfl)
  obtain ⟨u, hu, hsu⟩ := inner hWa ka ⟨kc.1, kc.2.1⟩
  have hU := EU.brackets k0.2.2 k0.1 hu kc.2.2
  rw [show ta.length + 1 + 1 = us.length from by omega] at hU
  exact ⟨u, hfin _ (EE.of (noHead_open k0.2.2) (EL.climb hU 4 0 rfl (stops_end hend 0))), hsu⟩
/-- No term begins with "exn". -/
theorem unary_exn {T : List Tok} {n i : Nat} {r : St × Tm} (ht : textOf T i = wExn) (h : unaryF T n ⟨i, false⟩ = some r) : r.1.bad = true := by
  have hk := textOf_some T (i := i) (by rw [ht]; decide +kernel)
  cases n with
  | zero => simp [unaryF] at h
  | succ n =>
    unfold unaryF at h
    rw [if_neg (by simp)] at h
    simp only [ht] at h
    rw [if_neg (by decide +kernel), if_neg (by decide +kernel), if_neg (by omega), if_neg (by omega)] at h
    have ew : wantF T ⟨i, false⟩ wOpen = ⟨i, true⟩ := by
      unfold wantF
      rw [if_pos (.inr (by show textOf T i ≠ wOpen; rw [ht]; decide +kernel))]
    rw [ew] at h
    obtain ⟨q, hq, h⟩ := Option.bind_eq_some_iff.1 h
    have hb := expr_bad T rfl hq
    rw [if_pos (.inl (by rw [hb]))] at h
    injection h with h
    rw [← h, hb]
    show (wantF T ⟨i, true⟩ wShut).bad = true
    rw [want_bad T rfl]
theorem apply_exn {T : List Tok} {n i : Nat} {r : St × Tm} (ht : textOf T i = wExn) (h : applyF T n ⟨i, false⟩ = some r) : r.1.bad = true := by
  cases n with
  | zero => simp [applyF] at h
  | succ n =>
    unfold applyF at h
    obtain ⟨q, hq, h⟩ := Option.bind_eq_some_iff.1 h
    have hb := unary_exn ht hq
    rw [aloop_bad T hb h]
    exact hb
theorem level_exn {T : List Tok} : ∀ (d n k i : Nat) (r : St × Tm), k + d = 4 → textOf T i = wExn → levelF T n k ⟨i, false⟩ = some r → r.1.bad = true
  | d, 0, k, i, r, _, _, h => by simp [levelF] at h
  | 0, n + 1, k, i, r, hk, ht, h => by
    unfold levelF at h
    rw [if_pos (by omega)] at h
    exact apply_exn ht h
  | d + 1, n + 1, k, i, r, hk, ht, h => by
    unfold levelF at h
    rw [if_neg (by omega)] at h
    obtain ⟨q, hq, h⟩ := Option.bind_eq_some_iff.1 h
    have hb := level_exn d n (k + 1) i q (by omega) ht hq
    rw [loop_bad T hb h]
    exact hb
theorem expr_exn {T : List Tok} {n i : Nat} {r : St × Tm} (ht : textOf T i = wExn) (h : exprF T n ⟨i, false⟩ = some r) : r.1.bad = true := by
  cases n with
  | zero => simp [exprF] at h
  | succ n =>
    unfold exprF at h
    simp only [ht] at h
    rw [if_neg (by simp), if_neg (by decide +kernel), if_neg (by decide +kernel), if_neg (by decide +kernel), if_neg (by decide +kernel), if_neg (by decide +kernel)] at h
    exact level_exn 4 n 0 i r rfl ht h
end Parse
end Go.Proofs.YtkcadkjpneoobaaGreatDoor
