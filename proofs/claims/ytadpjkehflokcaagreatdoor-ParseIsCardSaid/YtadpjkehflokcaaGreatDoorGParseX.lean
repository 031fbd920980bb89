/-The document's parser: every expression. The document's parser: all its functions, by induction on the fuel. -/
import Derived.Test.YtadpjkehflokcaaGreatDoorParseW1
import Derived.Test.YtadpjkehflokcaaGreatDoorParseW2
import Derived.Test.YtadpjkehflokcaaGreatDoorParseW3
import Derived.Test.YtadpjkehflokcaaGreatDoorParseW4
import Derived.Test.YtadpjkehflokcaaGreatDoorGParseW
import Derived.Test.YtadpjkehflokcaaGreatDoorParseW8
import Derived.Test.YtadpjkehflokcaaGreatDoorGParseT
import Derived.Test.YtadpjkehflokcaaGreatDoorGParseR
namespace Go.Proofs.YtadpjkehflokcaaGreatDoor
open Go.RowKit
set_option linter.unusedVariables false
set_option linter.unusedSimpArgs false
namespace Parse
open Token (Tok tel ToksAt)
open Term (Tm Hd TmIs)
theorem exprD_walk (g n c : Nat) (ts : List Tok) (m : Nat) (hP : DParts (partsF ts m) g n c ts) (hL : DLevel (levelF ts m 0) 0 g n c ts) : DPart 24 (exprF ts (m + 1)) g n c ts := by
  intro w s R hR hs hF
  obtain ⟨i, b⟩ := s
  cases b with
  | true =>
    have e : exprF ts (m + 1) ⟨i, true⟩ = some (⟨i, true⟩, zeroT) := by
      rw [exprF]
      simp only [if_true]
    rw [e] at hF
    obtain rfl := Option.some.inj hF
    exact dex_bad g n c ts w i hs
  | false =>
    by_cases h0 : textOf ts i = wLet
    · exact dex_let g n c ts m hP hL w i R hR hs h0 hF
    by_cases h1 : textOf ts i = wLetrec
    · exact dex_letrec g n c ts m hP hL w i R hR hs h1 hF
    by_cases h2 : textOf ts i = wFn
    · exact dex_fn g n c ts m hP hL w i R hR hs h2 hF
    by_cases h3 : textOf ts i = wIf
    · exact dex_if g n c ts m hP hL w i R hR hs h3 hF
    by_cases h4 : textOf ts i = wTry
    · exact dex_try g n c ts m hP hL w i R hR hs h4 hF
    exact dex_level g n c ts m hP hL w i R hR hs h0 h1 h2 h3 h4 hF
end Parse
end Go.Proofs.YtadpjkehflokcaaGreatDoor
namespace Go.Proofs.YtadpjkehflokcaaGreatDoor
open Go.RowKit
set_option linter.unusedVariables false
set_option linter.unusedSimpArgs false
namespace Parse
open Token (Tok tel ToksAt)
open Term (Tm Hd TmIs)

structure AllD (g n c : Nat) (ts : List Tok) (m : Nat) : Prop where
  expr : ∀ k, k ≤ m → DPart 24 (exprF ts k) g n c ts
  unary : ∀ k, k ≤ m → DPart 117 (unaryF ts k) g n c ts
  apply : ∀ k, k ≤ m → DPart 82 (applyF ts k) g n c ts
  level : ∀ k, k ≤ m → ∀ j, j ≤ 4 → DLevel (levelF ts k j) j g n c ts
  parts : ∀ k, k ≤ m → DParts (partsF ts k) g n c ts
theorem allD (g n c : Nat) (ts : List Tok) : ∀ m, AllD g n c ts m := by
  intro m
  induction m with
  | zero =>
    refine ⟨fun k hk => ?_, fun k hk => ?_, fun k hk => ?_, fun k hk j hj => ?_, fun k hk => ?_⟩
    all_goals obtain rfl : k = 0 := by omega
    · intro w s R hR hs hF; exact absurd hF (by simp [exprF])
    · intro w s R hR hs hF; exact absurd hF (by simp [unaryF])
    · intro w s R hR hs hF; exact absurd hF (by simp [applyF])
    · intro w s R hR hs hF; exact absurd hF (by simp [levelF])
    · exact partsD_walk g n c ts 0 (fun k hk => by omega)
  | succ m ih =>
    have step : ∀ {P : Nat → Prop}, (∀ k, k ≤ m → P k) → P (m + 1) → ∀ k, k ≤ m + 1 → P k := fun h h1 k hk => by
      rcases Nat.lt_or_ge k (m + 1) with h2 | h2
      · exact h k (by omega)
      · obtain rfl : k = m + 1 := by omega
        exact h1
    have hexp := step ih.expr (exprD_walk g n c ts m (ih.parts m (Nat.le_refl _)) (ih.level m (Nat.le_refl _) 0 (by omega)))
    refine ⟨hexp, step ih.unary (unaryD_walk g n c ts m ih.unary ih.expr), step ih.apply (applyD_walk g n c ts m ih.unary), step (P := fun k => ∀ j, j ≤ 4 → DLevel (levelF ts k j) j g n c ts) ih.level (fun j hj => ?_), step ih.parts (partsD_walk g n c ts (m + 1) (fun k hk => hexp k (by omega)))⟩
    rcases Nat.lt_or_ge j 4 with h | h
    · exact levelD_walk g n c ts m j h (fun i hi => ih.level i hi (j + 1) (by omega))
    · obtain rfl : j = 4 := by omega
      exact levelD_last g n c ts m (ih.apply m (Nat.le_refl _))
theorem expr_doc (g n c : Nat) (ts : List Tok) (m : Nat) : DPart 24 (exprF ts m) g n c ts := (allD g n c ts m).expr m (Nat.le_refl _)
end Parse
end Go.Proofs.YtadpjkehflokcaaGreatDoor
