/-A text in brackets, and behind two exceptions that are declared: what reading it comes to. A program's text: exceptions that are declared ahead of a term; what reading it comes to. A program's text: what comes of it may be shown. -/
import Derived.Test.YtadpjkehflokcaaGreatDoorGParseK
import Derived.Test.YtadpjkehflokcaaGreatDoorGParseL
import Derived.Test.YtadpjkehflokcaaGreatDoorGParseA
namespace Go.Proofs.YtadpjkehflokcaaGreatDoor
open Go.RowKit
set_option linter.unusedVariables false
set_option linter.unusedSimpArgs false
namespace Parse
open Token (Tok tel lex lex_tok lex_app lex_far lex_nil lex_blank pre tokAt pieceK pieceN endT two)
open Term (Tm Hd sameT sameK sameH)
open Chars (cls el)

/-- A whole text in brackets. -/
theorem brackets_res {xs : List Int} {x : Tm} (hx : termRes xs = .good x) (hlx : xs.length ≤ 2000) : ∃ u, termRes (40 :: (xs ++ [41])) = .good u ∧ sameT x u = true := by
  obtain ⟨ta, hla, hna, hWa⟩ := whole_of hx
  have e1 : LexIs ([] : List Int) [] := fun a => ⟨[], lex_nil a, rfl⟩
  have s1 : strOfNums [40] = wOpen := by kernel_rfl
  have s2 : strOfNums [41] = wShut := by kernel_rfl
  have h41 := lexIs_bracket (c := 41) (.inr rfl) e1
  rw [s2] at h41
  have hb := lexIs_bracket (c := 40) (.inl rfl) (lexIs_app (lexIs_of hla) (halt_bracket 41 (.inr rfl) []) h41)
  rw [s1] at hb
  obtain ⟨us, hlu, hku⟩ := hb 0
  have hulen : us.length = ta.length + 2 := by
    have := congrArg List.length hku
    rw [ks_len] at this
    simp only [List.length_cons, List.length_append, ks_len, List.length_nil] at this
    omega
  have hJ : (40 :: (xs ++ [41]) : List Int).length = xs.length + 2 := by simp
  have hR := row2_of (m := (40 :: (xs ++ [41]) : List Int).length) hku
  have hfin : ∀ (t : Tm), EE (us ++ [endT (40 :: (xs ++ [41]) : List Int).length]) 0 us.length t → termRes (40 :: (xs ++ [41])) = .good t := by
    intro t ht
    unfold termRes
    rw [if_neg (by omega), hlu]
    show toksRes us _ = _
    unfold toksRes
    rw [if_neg (by omega)]
    obtain ⟨r, hr⟩ := enough0 (good_of_lex hlu).row
    have e := ht.det hr
    rw [hr, e]
    exact if_pos ⟨rfl, by show (tel _ us.length).k = 6; rw [tel_end]; rfl⟩
  generalize us ++ [endT (40 :: (xs ++ [41]) : List Int).length] = T at *
  have hll : ((5, wOpen) :: (ks ta ++ [(5, wShut)]) : List (Int × ByteArray)).length = us.length := by
    simp only [List.length_cons, List.length_append, ks_len, List.length_nil]
    omega
  have hend : (tel T us.length).k = 6 := by rw [← hll]; exact hR.fin
  have k0 := hR.text5 (i := 0) (w := wOpen) (by rw [hll]; omega) rfl
  have ka : ∀ i, i < ta.length → (tel T (i + 1)).k = (tel ta i).k ∧ (tel T (i + 1)).s = (tel ta i).s := by
    intro i hi
    obtain ⟨h1, h2⟩ := hR.tok (i + 1) (by rw [hll]; omega)
    have e : kat ((5, wOpen) :: (ks ta ++ [(5, wShut)])) (i + 1) = kat (ks ta) i := by
      show kat (ks ta ++ [(5, wShut)]) i = _
      exact kat_left (by rw [ks_len]; exact hi)
    rw [e] at h1 h2
    have h3 := tel_kat (us := []) hi
    rw [List.append_nil] at h3
    exact ⟨h1.trans h3.1.symm, h2.trans h3.2.symm⟩
  have kc := hR.text5 (i := ta.length + 1) (w := wShut) (by rw [hll]; omega) (by
    show kat (ks ta ++ [(5, wShut)]) ta.length = _
    rw [kat_right (i := 0) (by rw [ks_len]; omega)]
    rfl)
  obtain ⟨u, hu, hsu⟩ := inner hWa ka ⟨kc.1, kc.2.1⟩
  have hU := EU.brackets k0.2.2 k0.1 hu kc.2.2
  rw [show ta.length + 1 + 1 = us.length from by omega] at hU
  exact ⟨u, hfin _ (EE.of (noHead_open k0.2.2) (EL.climb hU 4 0 rfl (stops_end hend 0))), hsu⟩
/-- No term begins with "exn". -/
theorem unary_exn {T : List Tok} {n i : Nat} {r : St × Tm} (ht : textOf T i = wExn) (h : unaryF T n ⟨i, false⟩ = some r) : r.1.bad = true := by
  have hk := textOf_some T (i := i) (by rw [ht]; decide +kernel)
  cases n with
  | zero => simp [unaryF] at h
  | succ n =>
    unfold unaryF at h
    rw [if_neg (by simp)] at h
    simp only [ht] at h
    rw [if_neg (by decide +kernel), if_neg (by decide +kernel), if_neg (by omega), if_neg (by omega)] at h
    have ew : wantF T ⟨i, false⟩ wOpen = ⟨i, true⟩ := by
      unfold wantF
      rw [if_pos (.inr (by show textOf T i ≠ wOpen; rw [ht]; decide +kernel))]
    rw [ew] at h
    obtain ⟨q, hq, h⟩ := Option.bind_eq_some_iff.1 h
    have hb := expr_bad T rfl hq
    rw [if_pos (.inl (by rw [hb]))] at h
    injection h with h
    rw [← h, hb]
    show (wantF T ⟨i, true⟩ wShut).bad = true
    rw [want_bad T rfl]
theorem apply_exn {T : List Tok} {n i : Nat} {r : St × Tm} (ht : textOf T i = wExn) (h : applyF T n ⟨i, false⟩ = some r) : r.1.bad = true := by
  cases n with
  | zero => simp [applyF] at h
  | succ n =>
    unfold applyF at h
    obtain ⟨q, hq, h⟩ := Option.bind_eq_some_iff.1 h
    have hb := unary_exn ht hq
    rw [aloop_bad T hb h]
    exact hb
theorem level_exn {T : List Tok} : ∀ (d n k i : Nat) (r : St × Tm), k + d = 4 → textOf T i = wExn → levelF T n k ⟨i, false⟩ = some r → r.1.bad = true
  | d, 0, k, i, r, _, _, h => by simp [levelF] at h
  | 0, n + 1, k, i, r, hk, ht, h => by
    unfold levelF at h
    rw [if_pos (by omega)] at h
    exact apply_exn ht h
  | d + 1, n + 1, k, i, r, hk, ht, h => by
    unfold levelF at h
    rw [if_neg (by omega)] at h
    obtain ⟨q, hq, h⟩ := Option.bind_eq_some_iff.1 h
    have hb := level_exn d n (k + 1) i q (by omega) ht hq
    rw [loop_bad T hb h]
    exact hb
theorem expr_exn {T : List Tok} {n i : Nat} {r : St × Tm} (ht : textOf T i = wExn) (h : exprF T n ⟨i, false⟩ = some r) : r.1.bad = true := by
  cases n with
  | zero => simp [exprF] at h
  | succ n =>
    unfold exprF at h
    simp only [ht] at h
    rw [if_neg (by simp), if_neg (by decide +kernel), if_neg (by decide +kernel), if_neg (by decide +kernel), if_neg (by decide +kernel), if_neg (by decide +kernel)] at h
    exact level_exn 4 n 0 i r rfl ht h
end Parse
end Go.Proofs.YtadpjkehflokcaaGreatDoor
namespace Go.Proofs.YtadpjkehflokcaaGreatDoor
open Go.RowKit
set_option linter.unusedVariables false
set_option linter.unusedSimpArgs false
namespace Parse
open Token (Tok tel lex lex_tok lex_app lex_far lex_nil lex_blank pre tokAt pieceK pieceN endT two)
open Term (Tm Hd sameT sameK sameH)
open Chars (cls el)

/-- The exceptions that are declared ahead: their tokens, and where one goes on. -/
def exnsF (T : List Tok) : Nat → St → List Tok × St
  | 0, s => ([], s)
  | n + 1, s =>
    if s.bad = true ∨ textOf T s.i ≠ wExn then ([], s) else
    if (wantF T (getF T (wantF T s wExn) 3) wSemi).bad = true then ([], wantF T (getF T (wantF T s wExn) 3) wSemi) else
    (tel T (s.i + 1) :: (exnsF T n (wantF T (getF T (wantF T s wExn) 3) wSemi)).1, (exnsF T n (wantF T (getF T (wantF T s wExn) 3) wSemi)).2)
/-- What a program's text comes to: a place and an error's number, or exceptions and a term. -/
inductive QRes where
  | bad (a k : Int)
  | good (es : List Tok) (t : Tm)
def qresOf (T : List Tok) (es : List Tok) (r : Option (St × Tm)) : QRes :=
  match r with
  | none => .bad 0 0
  | some r => if r.1.bad = false ∧ (tel T r.1.i).k = 6 then .good es r.2 else .bad (tel T r.1.i).a 2
def qtoksRes (ts : List Tok) (m : Nat) : QRes :=
  if 4000 < ts.length then .bad (tel ts 4000).a 3 else
  qresOf (ts ++ [endT m]) (exnsF (ts ++ [endT m]) (ts ++ [endT m]).length ⟨0, false⟩).1 (exprF (ts ++ [endT m]) (fuelOf (ts ++ [endT m])) (exnsF (ts ++ [endT m]) (ts ++ [endT m]).length ⟨0, false⟩).2)
def progRes (xs : List Int) : QRes :=
  if 65536 < xs.length then .bad 0 3 else
  match lex xs 0 with
  | .inl k => .bad k 2
  | .inr ts => qtoksRes ts xs.length

theorem exns_stop {T : List Tok} {i : Nat} (h : textOf T i ≠ wExn) (n : Nat) : exnsF T n ⟨i, false⟩ = ([], ⟨i, false⟩) := by
  cases n with
  | zero => rfl
  | succ n => unfold exnsF; rw [if_pos (.inr h)]
theorem exns_step {T : List Tok} {i : Nat} (h : textOf T i = wExn) (h1 : (tel T (i + 1)).k = 3) (h2 : textOf T (i + 2) = wSemi) (n : Nat) :
    exnsF T (n + 1) ⟨i, false⟩ = (tel T (i + 1) :: (exnsF T n ⟨i + 3, false⟩).1, (exnsF T n ⟨i + 3, false⟩).2) := by
  have e : wantF T (getF T (wantF T ⟨i, false⟩ wExn) 3) wSemi = ⟨i + 3, false⟩ := by
    rw [want_yes h, (get_yes h1).1, want_yes h2]
  rw [exnsF]
  rw [if_neg (fun hc => hc.elim (fun hb => by cases hb) (fun hb => hb h)), e, if_neg (by simp)]
theorem enough_at {T : List Tok} (h : Row T) {i : Nat} (hi : i < T.length) : ∃ r, exprF T (fuelOf T) ⟨i, false⟩ = some r := by
  obtain ⟨r, hr, _⟩ := (enough T h (fuelOf T)).1 ⟨i, false⟩ hi (by rw [need_good T rfl]; unfold fuelOf; show 12 * (T.length - i) + 11 ≤ _; omega)
  exact ⟨r, hr⟩
/-- Where a term stands, no exception is declared. -/
theorem EE.not_exn {T : List Tok} {i j : Nat} {x : Tm} (h : EE T i j x) : textOf T i ≠ wExn := by
  obtain ⟨n, hn⟩ := h
  intro ht
  have := expr_exn ht hn
  cases this
/-- A term is a program that declares no exceptions. -/
theorem prog_alone {xs : List Int} {x : Tm} (hx : termRes xs = .good x) : progRes xs = .good [] x := by
  obtain ⟨ts, hl, hn, hW⟩ := whole_of hx
  have hne : textOf (ts ++ [endT xs.length]) 0 ≠ wExn := EE.not_exn hW.expr
  have hS := exns_stop hne (ts ++ [endT xs.length]).length
  unfold termRes at hx
  unfold progRes
  split at hx
  · cases hx
  rename_i hs
  rw [if_neg hs, hl]
  rw [hl] at hx
  have hx' : toksRes ts xs.length = .good x := hx
  show qtoksRes ts xs.length = _
  unfold toksRes at hx'
  unfold qtoksRes
  split at hx'
  · cases hx'
  rename_i h4
  rw [if_neg h4, hS]
  show qresOf _ [] (exprF _ _ ⟨0, false⟩) = _
  unfold resOf at hx'
  unfold qresOf
  split at hx'
  · cases hx'
  · rename_i r hr
    rw [hr]
    show (if _ then _ else _) = _
    split at hx'
    · rename_i hc
      injection hx' with hx'
      rw [if_pos hc, hx']
    · cases hx'
/-! ### Two exceptions ahead -/
theorem lexIs_semi {zs : List Int} {m : List (Int × ByteArray)} (k : LexIs zs m) : LexIs (59 :: zs) ((5, wSemi) :: m) := by
  have h2 : two (59 :: zs) = false := by
    unfold two
    apply decide_eq_false
    have e : el (59 :: zs) 0 = 59 := rfl
    rw [e]
    omega
  have hcl : cls 59 = 5 := by decide +kernel
  have e0 : el (59 :: zs) 0 = 59 := rfl
  have hN : pieceN (59 :: zs) = 1 := by
    unfold pieceN
    rw [e0, hcl, h2]
    rfl
  have hK : pieceK (59 :: zs) = 5 := by
    unfold pieceK
    rw [e0, hcl, h2]
    rfl
  have hw : strOfNums [59] = wSemi := by kernel_rfl
  intro a
  obtain ⟨vs, k1, k2⟩ := k (a + 1)
  refine ⟨tokAt (59 :: zs) a :: vs, ?_, ?_⟩
  · rw [lex_tok (59 :: zs) a (by simp) (by rw [hK]; decide), hN]
    show pre _ (lex zs (a + 1)) = _
    rw [k1]; rfl
  · unfold ks at k2 ⊢
    rw [List.map_cons, k2, ← hw]
    unfold tokAt
    rw [hK, hN]
    rfl
theorem halt_semi (zs : List Int) : Token.Halt (59 :: zs) := by
  right
  have e0 : el (59 :: zs) 0 = 59 := rfl
  rw [e0]
  decide +kernel
theorem halt_blank (zs : List Int) : Token.Halt (32 :: zs) := by
  right
  have e0 : el (32 :: zs) 0 = 32 := rfl
  rw [e0]
  decide +kernel
theorem lexIs_blank' {zs : List Int} {m : List (Int × ByteArray)} (k : LexIs zs m) : LexIs (32 :: zs) m := by
  intro a
  obtain ⟨vs, k1, k2⟩ := k (a + 1)
  refine ⟨vs, ?_, k2⟩
  rw [lex_blank (32 :: zs) a (by simp) (show cls 32 = 1 by decide +kernel)]
  exact k1
def wE : ByteArray := ⟨#[69]⟩
theorem lexIs_exn : LexIs [101, 120, 110] [(4, wExn)] := by
  have hN : pieceN [101, 120, 110] = 3 := by kernel_rfl
  have hK : pieceK [101, 120, 110] = 4 := by kernel_rfl
  have hw : strOfNums [101, 120, 110] = wExn := by kernel_rfl
  intro a
  refine ⟨[tokAt [101, 120, 110] a], ?_, ?_⟩
  · rw [lex_tok _ a (by simp) (by rw [hK]; decide), hN]
    show pre _ (lex [] (a + 3)) = _
    rw [lex_nil]; rfl
  · unfold ks tokAt
    rw [hK, hN, ← hw]
    rfl
theorem lexIs_E : LexIs [69] [(3, wE)] := by
  have hN : pieceN [69] = 1 := by kernel_rfl
  have hK : pieceK [69] = 3 := by kernel_rfl
  have hw : strOfNums [69] = wE := by kernel_rfl
  intro a
  refine ⟨[tokAt [69] a], ?_, ?_⟩
  · rw [lex_tok _ a (by simp) (by rw [hK]; decide), hN]
    show pre _ (lex [] (a + 1)) = _
    rw [lex_nil]; rfl
  · unfold ks tokAt
    rw [hK, hN, ← hw]
    rfl
/-- 'exn E;' ahead of a text. -/
theorem lexIs_decl {zs : List Int} {m : List (Int × ByteArray)} (k : LexIs zs m) : LexIs (101 :: 120 :: 110 :: 32 :: 69 :: 59 :: zs) ((4, wExn) :: (3, wE) :: (5, wSemi) :: m) := by
  have h1 := lexIs_app lexIs_E (halt_semi zs) (lexIs_semi k)
  have h2 := lexIs_app lexIs_exn (halt_blank _) (lexIs_blank' h1)
  exact h2
/-- The tokens of a text that stand at the end of another one's. -/
theorem tailed {T' ts : List Tok} {m o : Nat} {x : Tm} (h : Whole ts m x) (htok : ∀ i, i < ts.length → (tel T' (i + o)).k = (tel ts i).k ∧ (tel T' (i + o)).s = (tel ts i).s) (hsh : (tel T' (ts.length + o)).k = 6) :
    ∃ u, EE T' o (ts.length + o) u ∧ sameT x u = true := by
  have htx : textOf T' (ts.length + o) = ⟨#[]⟩ := by unfold textOf; rw [hsh, if_neg (by decide)]
  have hL : Like (ts ++ [endT m]) T' o ts.length := {
    good := h.good
    tok := fun i hi => by rw [tel_left ts _ i hi]; exact htok i hi
    last := by rw [tel_end]; rfl
    len := by simp
    stop := ⟨by rw [hsh]; decide, by rw [hsh]; decide, fun w hw _ => by rw [htx]; exact fun e => (words_apart w hw).2.2.2 e.symm⟩ }
  obtain ⟨n, hn⟩ := h.expr
  obtain ⟨u, h1, h2⟩ := (shift_all hL n).1 ⟨0, false⟩ _ (Nat.zero_le _) hn rfl
  refine ⟨u, ⟨n, ?_⟩, h2⟩
  have e : sh o ⟨0, false⟩ = ⟨o, false⟩ := by unfold sh; simp
  rw [e] at h1
  exact h1
/-- 'exn E;exn E; ' ahead of a text. -/
def declX (xs : List Int) : List Int := 101 :: 120 :: 110 :: 32 :: 69 :: 59 :: 101 :: 120 :: 110 :: 32 :: 69 :: 59 :: 32 :: xs
theorem decl_at {xs : List Int} {us : List Tok} (h : lex (declX xs) 0 = .inr us) : (tel us 4).a = 10 ∧ 4 < us.length := by
  have h1 : lex [101, 120, 110, 32, 69, 59, 101, 120, 110, 32, 69] 0 = .inr [⟨4, ⟨#[101, 120, 110]⟩, 0⟩, ⟨3, ⟨#[69]⟩, 4⟩, ⟨5, ⟨#[59]⟩, 5⟩, ⟨4, ⟨#[101, 120, 110]⟩, 6⟩, ⟨3, ⟨#[69]⟩, 10⟩] := by kernel_rfl
  have h2 := lex_app (59 :: 32 :: xs) (halt_semi _) _ _ 0 _ (Nat.le_refl _) h1
  have h3 : declX xs = [101, 120, 110, 32, 69, 59, 101, 120, 110, 32, 69] ++ (59 :: 32 :: xs) := rfl
  rw [h3, h2] at h
  generalize lex (59 :: 32 :: xs) _ = r at h
  cases r with
  | inl k => cases h
  | inr l =>
    have h' : ([⟨4, ⟨#[101, 120, 110]⟩, 0⟩, ⟨3, ⟨#[69]⟩, 4⟩, ⟨5, ⟨#[59]⟩, 5⟩, ⟨4, ⟨#[101, 120, 110]⟩, 6⟩, ⟨3, ⟨#[69]⟩, 10⟩] : List Tok) ++ l = us := Sum.inr.inj h
    subst h'
    exact ⟨rfl, by simp⟩
theorem decl_res {xs : List Int} {x : Tm} (hx : termRes xs = .good x) (hlx : xs.length ≤ 2000) :
    ∃ e1 e2 u, progRes (declX xs) = .good [e1, e2] u ∧ sameT x u = true ∧ (e1.k = 3 ∧ e1.s = wE) ∧ e2.k = 3 ∧ e2.s = wE ∧ e2.a = 10 := by
  obtain ⟨ta, hla, hna, hWa⟩ := whole_of hx
  have hb := lexIs_decl (lexIs_decl (lexIs_blank' (lexIs_of hla)))
  obtain ⟨us, hlu, hku⟩ := hb 0
  have hulen : us.length = ta.length + 6 := by
    have := congrArg List.length hku
    rw [ks_len] at this
    simp only [List.length_cons, ks_len] at this
    omega
  have hJ : (declX xs).length = xs.length + 13 := by unfold declX; simp
  have hR := row2_of (m := (declX xs).length) hku
  have hlu' : lex (declX xs) 0 = .inr us := hlu
  have hrow := (good_of_lex hlu').row
  have hll : ((4, wExn) :: (3, wE) :: (5, wSemi) :: (4, wExn) :: (3, wE) :: (5, wSemi) :: ks ta : List (Int × ByteArray)).length = us.length := by
    simp only [List.length_cons, ks_len]
    omega
  have hTl : (us ++ [endT (declX xs).length]).length = ta.length + 7 := by simp; omega
  have hfin : ∀ (es : List Tok) (t : Tm), exnsF (us ++ [endT (declX xs).length]) (us ++ [endT (declX xs).length]).length ⟨0, false⟩ = (es, ⟨6, false⟩) → EE (us ++ [endT (declX xs).length]) 6 us.length t → progRes (declX xs) = .good es t := by
    intro es t he ht
    unfold progRes
    rw [if_neg (by omega), hlu']
    show qtoksRes us _ = _
    unfold qtoksRes
    rw [if_neg (by omega), he]
    show qresOf _ es (exprF _ _ ⟨6, false⟩) = _
    obtain ⟨r, hr⟩ := enough_at hrow (i := 6) (by omega)
    have e := ht.det hr
    rw [hr, e]
    exact if_pos ⟨rfl, by show (tel _ us.length).k = 6; rw [tel_end]; rfl⟩
  have hpl : (tel (us ++ [endT (declX xs).length]) 4).a = 10 := by rw [tel_left _ _ _ (decl_at hlu').2]; exact (decl_at hlu').1
  generalize us ++ [endT (declX xs).length] = T at *
  have hend : (tel T us.length).k = 6 := by rw [← hll]; exact hR.fin
  have word : ∀ i k w, i < 6 → kat ((4, wExn) :: (3, wE) :: (5, wSemi) :: (4, wExn) :: (3, wE) :: (5, wSemi) :: ks ta) i = (k, w) → (tel T i).k = k ∧ (tel T i).s = w := by
    intro i k w hi hk
    obtain ⟨h1, h2⟩ := hR.tok i (by rw [hll]; omega)
    rw [hk] at h1 h2
    exact ⟨h1, h2⟩
  have k0 := word 0 4 wExn (by omega) rfl
  have k1 := word 1 3 wE (by omega) rfl
  have k2 := word 2 5 wSemi (by omega) rfl
  have k3 := word 3 4 wExn (by omega) rfl
  have k4 := word 4 3 wE (by omega) rfl
  have k5 := word 5 5 wSemi (by omega) rfl
  have t0 : textOf T 0 = wExn := by unfold textOf; rw [k0.1, if_pos (.inl rfl), k0.2]
  have t2 : textOf T 2 = wSemi := by unfold textOf; rw [k2.1, if_pos (.inr rfl), k2.2]
  have t3 : textOf T 3 = wExn := by unfold textOf; rw [k3.1, if_pos (.inl rfl), k3.2]
  have t5 : textOf T 5 = wSemi := by unfold textOf; rw [k5.1, if_pos (.inr rfl), k5.2]
  have ka : ∀ i, i < ta.length → (tel T (i + 6)).k = (tel ta i).k ∧ (tel T (i + 6)).s = (tel ta i).s := by
    intro i hi
    obtain ⟨h1, h2⟩ := hR.tok (i + 6) (by rw [hll]; omega)
    have e : kat ((4, wExn) :: (3, wE) :: (5, wSemi) :: (4, wExn) :: (3, wE) :: (5, wSemi) :: ks ta) (i + 6) = kat (ks ta) i := rfl
    rw [e] at h1 h2
    have h3 := tel_kat (us := []) hi
    rw [List.append_nil] at h3
    exact ⟨h1.trans h3.1.symm, h2.trans h3.2.symm⟩
  obtain ⟨u, hu, hsu⟩ := tailed (o := 6) hWa ka (by rw [← hulen]; exact hend)
  rw [← hulen] at hu
  have hx6 := exns_stop hu.not_exn
  obtain ⟨n, hn⟩ : ∃ n, T.length = n + 1 + 1 := ⟨T.length - 2, by omega⟩
  have hE : exnsF T T.length ⟨0, false⟩ = ([tel T 1, tel T 4], ⟨6, false⟩) := by
    rw [hn, exns_step t0 k1.1 t2, exns_step t3 k4.1 t5, hx6]
  exact ⟨tel T 1, tel T 4, u, hfin _ u hE hu, hsu, k1, k4.1, k4.2, hpl⟩
end Parse
end Go.Proofs.YtadpjkehflokcaaGreatDoor
namespace Go.Proofs.YtadpjkehflokcaaGreatDoor
open Go.RowKit
set_option linter.unusedVariables false
set_option linter.unusedSimpArgs false
namespace Parse
open Token (Tok tel lex endT)
open Term (Tm Hd wt okT)
open Words (exnB)

theorem exns_lt {T : List Tok} (hR : Row T) : ∀ (n : Nat) (s : St), s.i < T.length → (exnsF T n s).2.i < T.length
  | 0, s, h => h
  | n + 1, s, h => by
    have h1 := want_lt T hR (s := s) (w := wExn) (by decide) h
    have h2 := get_lt T hR (s := wantF T s wExn) (k := 3) (by decide) h1
    have h3 := want_lt T hR (s := getF T (wantF T s wExn) 3) (w := wSemi) (by decide) h2
    rw [exnsF]
    split
    · exact h
    · split
      · exact h3
      · exact exns_lt hR n _ h3
theorem exns_good {T : List Tok} (hG : Good T) : ∀ (n : Nat) (s : St), s.i < T.length → (exnsF T n s).2.bad = false → s.bad = false ∧ (exnsF T n s).2.i = s.i + 3 * (exnsF T n s).1.length ∧ ∀ u ∈ (exnsF T n s).1, u.k = 3 ∧ exnB u.s = true
  | 0, s, _, h => ⟨h, rfl, fun u hu => by cases hu⟩
  | n + 1, s, hs, h => by
    have h1 := want_lt T hG.row (s := s) (w := wExn) (by decide) hs
    have h2 := get_lt T hG.row (s := wantF T s wExn) (k := 3) (by decide) h1
    have h3 := want_lt T hG.row (s := getF T (wantF T s wExn) 3) (w := wSemi) (by decide) h2
    rw [exnsF] at h ⊢
    by_cases hc : s.bad = true ∨ textOf T s.i ≠ wExn
    · rw [if_pos hc] at h ⊢
      exact ⟨h, rfl, fun u hu => by cases hu⟩
    · rw [if_neg hc] at h ⊢
      by_cases hb : (wantF T (getF T (wantF T s wExn) 3) wSemi).bad = true
      · rw [if_pos hb] at h
        exact absurd (hb.symm.trans h) (by decide)
      · rw [if_neg hb] at h ⊢
        have hb' : (wantF T (getF T (wantF T s wExn) 3) wSemi).bad = false := by simpa using hb
        obtain ⟨g1, g2, g3⟩ := want_good hb'
        obtain ⟨k1, k2, k3, _⟩ := get_good g1
        obtain ⟨m1, m2, m3⟩ := want_good k1
        obtain ⟨i1, i2, i3⟩ := exns_good hG n _ h3 h
        refine ⟨m1, ?_, ?_⟩
        · show (exnsF T n _).2.i = s.i + 3 * (_ + 1)
          rw [i2]
          omega
        · intro u hu
          rw [m2] at h1 k3
          rcases List.mem_cons.1 hu with rfl | hu
          · exact ⟨k3, (hG.good _ h1 (by omega)).exn k3⟩
          · exact i3 u hu
/-- What a program's text is made of. -/
theorem prog_good {xs : List Int} {es : List Tok} {t : Tm} (hx : xs.length ≤ 4000) (h : progRes xs = .good es t) :
    ∃ ts, lex xs 0 = .inr ts ∧ ts.length ≤ xs.length ∧ okT t = true ∧ PlT (ts ++ [endT xs.length]) t ∧ wt t + 1 + 6 * es.length ≤ 2 * ts.length ∧ ∀ u ∈ es, u.k = 3 ∧ exnB u.s = true := by
  unfold progRes at h
  rw [if_neg (by omega)] at h
  cases hl : lex xs 0 with
  | inl j => rw [hl] at h; cases h
  | inr ts =>
    rw [hl] at h
    have h' : qtoksRes ts xs.length = .good es t := h
    have hlen := Token.lex_len hl
    unfold qtoksRes at h'
    rw [if_neg (by omega)] at h'
    have hG := good_of_lex hl
    have hT : 0 < (ts ++ [endT xs.length]).length := by simp
    have hl0 := exns_lt hG.row (ts ++ [endT xs.length]).length ⟨0, false⟩ hT
    have hg0 := exns_good hG (ts ++ [endT xs.length]).length ⟨0, false⟩ hT
    have hTl : (ts ++ [endT xs.length]).length = ts.length + 1 := by simp
    generalize exnsF (ts ++ [endT xs.length]) (ts ++ [endT xs.length]).length ⟨0, false⟩ = q at h' hl0 hg0
    unfold qresOf at h'
    split at h'
    · cases h'
    · rename_i r hr
      split at h'
      · rename_i hc
        injection h' with he ht
        subst he ht
        have hqb : q.2.bad = false := by
          cases hb : q.2.bad with
          | false => rfl
          | true =>
            have e := expr_bad (ts ++ [endT xs.length]) hb hr
            rw [e, hb] at hc
            exact absurd hc.1 (by decide)
        obtain ⟨_, q2, q3⟩ := hg0 hqb
        obtain ⟨n1, n2, n3, n4, n5⟩ := (nodes_all hG (fuelOf (ts ++ [endT xs.length]))).1 q.2 r hl0 hr hc.1
        have hlt := (lt_all _ hG.row _).1 q.2 r hl0 hr
        refine ⟨ts, rfl, hlen, n3, n4, ?_, q3⟩
        have q2' : q.2.i = 0 + 3 * q.1.length := q2
        omega
      · cases h'
/-- The fuel is enough for a program. -/
theorem prog_enough {T : List Tok} (hR : Row T) : ∃ r, exprF T (fuelOf T) (exnsF T T.length ⟨0, false⟩).2 = some r := by
  have hlt := exns_lt hR T.length ⟨0, false⟩ hR.ends.1
  obtain ⟨r, hr, _⟩ := (enough T hR (fuelOf T)).1 _ hlt (by
    unfold fuelOf
    cases hb : (exnsF T T.length ⟨0, false⟩).2.bad with
    | true => rw [need_bad T hb]; omega
    | false => rw [need_good T hb]; omega)
  exact ⟨r, hr⟩
/-- What isn't a program's text, of that length, is an error of form. -/
theorem prog_bad {xs : List Int} {a k : Int} (hx : xs.length ≤ 4000) (h : progRes xs = .bad a k) : k = 2 := by
  unfold progRes at h
  rw [if_neg (by omega)] at h
  cases hl : lex xs 0 with
  | inl j => rw [hl] at h; injection h with _ h; exact h.symm
  | inr ts =>
    rw [hl] at h
    have h' : qtoksRes ts xs.length = .bad a k := h
    have hlen := Token.lex_len hl
    unfold qtoksRes at h'
    rw [if_neg (by omega)] at h'
    obtain ⟨r, hr⟩ := prog_enough (good_of_lex hl).row
    rw [hr] at h'
    unfold qresOf at h'
    simp only at h'
    split at h'
    · cases h'
    · injection h' with _ h'; exact h'.symm
end Parse
end Go.Proofs.YtadpjkehflokcaaGreatDoor
