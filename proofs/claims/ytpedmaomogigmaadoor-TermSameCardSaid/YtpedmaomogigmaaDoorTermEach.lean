/- What each is handed on by: the closure's own box. -/
import Derived.Test.YtpedmaomogigmaaDoorTermFoldEach
namespace Go.Proofs.YtpedmaomogigmaaDoor
open Go.RowKit
set_option linter.unusedVariables false
namespace Term

/-- The state, and the box of what is handed each node. -/
def EachI {σ : Type} (I : Nat → σ → World → Prop) (N K : Nat) (f : Nat) (r : Nat) (s : σ) (W : World) : Prop :=
  I r s W ∧ N < K ∧ W.heap[K]? = some (.cells #[.func (.func f) #[] #[.pointer (some ⟨N, 0, none⟩)]] 44 (0, 0))
theorem EachI.goes {σ : Type} {w0 : World} {N K f : Nat} {I : Nat → σ → World → Prop} (h : Goes w0 N I) : Goes w0 N (EachI I N K f) where
  base := fun r s W k => h.base r s W k.1
  has := fun r s W k => h.has r s W k.1
  keep := fun r s W W' k hb => ⟨h.keep r s W W' k.1 hb, k.2.1, (hb.block K (lt_of_block k.2.2)).trans k.2.2⟩
  less := fun r r' s W k hr => ⟨h.less r r' s W k.1 hr, k.2⟩
theorem each_box {N K f : Nat} {W w' : World} (hK : N < K) (h : W.heap[K]? = some (.cells #[.func (.func f) #[] #[.pointer (some ⟨N, 0, none⟩)]] 44 (0, 0))) (hs : Stays N W w') : w'.heap[K]? = some (.cells #[.func (.func f) #[] #[.pointer (some ⟨N, 0, none⟩)]] 44 (0, 0)) := by
  rw [hs.block K (lt_of_block h) (fun ho => by
    rcases ho with ho | ⟨_, cur, ho⟩
    · omega
    · rw [h] at ho
      simp at ho), h]
/-- Nothing is asked of a node: the state alone goes on. -/
def sumK {σ : Type} (S : σ → Tm → σ) (ts : List Tm) (s : σ) : σ := (foK (fun _ _ => true) S ts s).2
theorem foK_true {σ : Type} (S : σ → Tm → σ) : ∀ m : Nat, (∀ (t : Tm) (s : σ), wt t ≤ m → (foT (fun _ _ => true) S t s).1 = true) ∧ (∀ (ts : List Tm) (s : σ), wts ts ≤ m → (foK (fun _ _ => true) S ts s).1 = true) := by
  intro m
  induction m with
  | zero =>
    refine ⟨fun t s h => by have := wt_pos t; omega, fun ts s h => ?_⟩
    cases ts with
    | nil => rw [foK_nil]
    | cons t ts => rw [wts_cons] at h; have := wt_pos t; omega
  | succ m ih =>
    have hT : ∀ (t : Tm) (s : σ), wt t ≤ m + 1 → (foT (fun _ _ => true) S t s).1 = true := by
      intro t s h
      have hk := wt_ks t
      rw [foT_eq, if_pos rfl]
      exact ih.2 t.ks _ (by omega)
    refine ⟨hT, fun ts => ?_⟩
    induction ts with
    | nil => intro s _; rw [foK_nil]
    | cons t ts ihs =>
      intro s h
      rw [wts_cons] at h
      rw [foK_cons, if_pos (hT t s (by omega))]
      exact ihs _ (by omega)
theorem foK_yes1 {σ : Type} (S : σ → Tm → σ) (ts : List Tm) (s : σ) : (foK (fun _ _ => true) S ts s).1 = true := (foK_true S (wts ts)).2 ts s (Nat.le_refl _)
/-- How what is handed each node ends, and each itself. -/
def SeeEnd {σ : Type} (N : Nat) (I : σ → World → Prop) (s : σ) (w : World) (e : Ending) (w' : World) : Prop := e = .returned (.tuple #[]) ∧ I s w' ∧ Stays N w w'
def Sees {σ : Type} (f : Nat) (S : σ → Tm → σ) (w0 : World) (N : Nat) (I : Nat → σ → World → Prop) : Prop :=
  ∀ r s W t h p l c, I (r + 1) s W → TmIs w0 h p l c t → Calls Tryd.prog f #[.agg #[.int .u8 h.k, .int .u8 h.op, .int .i64 h.pl, .int .i64 h.n, .string h.name, .string h.arg, .string h.exn, .slice p l c], .pointer (some ⟨N, 0, none⟩)] W (SeeEnd N (I r) (S s t) W)
end Term
end Go.Proofs.YtpedmaomogigmaaDoor
