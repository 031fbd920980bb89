/-Types: mathematics: how many nodes, which kinds, which may be, which are the same, and their words. Types with regions: mathematics: how many nodes, which may be, which are the same, their regions, what they are without, and their words. Terms with regions: mathematics: the bound, all nodes, their list, what they bind, where one is bound again, what is left without regions, the same. Types that lie one behind the other; what can be read in one world and in another; a row of types that grows. The program's way through all nodes of types, with what tells of one node and reads no state: May, Closed, Arrows. The walks of the program's May, Closed, Arrows and Size. The walk of the program's copied: types whose nodes are all new. The walks of the program's of, Int, Pair and Ref. Boxes of types with regions, and what lies in new memory. The document's May. The walks of the document's Great and Size of types with regions. -/
import Derived.Test.YtolpdhkgkjnbfaaDoorGC03
import Derived.Lib.Join
import Derived.Lib.ItoaLen
import Derived.Test.YtolpdhkgkjnbfaaDoorGC02
import Derived.BigQuiet
import Derived.Lib.LaidTab
import Derived.OwnWalk
import Derived.Laws.AppendOwn
import Derived.Laws.AppendOwnNone
import Derived.Laws.OwnMore
import Derived.Maps.AppendAt
import Derived.IntWalk
import Derived.StillTailTactics
namespace Go.Proofs.YtolpdhkgkjnbfaaDoor
open Go.RowKit
set_option linter.unusedVariables false
namespace Types

/-! ### The bound -/
mutual
def leftT : Ty → Int → Int
  | .node h l, n => leftK l (n - 1)
def leftK : List Ty → Int → Int
  | [], n => n
  | t :: ts, n => if n < 0 then n else leftK ts (leftT t n)
end
theorem leftT_eq (t : Ty) (n : Int) : leftT t n = leftK t.ks (n - 1) := by cases t; unfold leftT; rfl
theorem leftK_nil (n : Int) : leftK [] n = n := by unfold leftK; rfl
theorem leftK_cons (t : Ty) (ts : List Ty) (n : Int) : leftK (t :: ts) n = if n < 0 then n else leftK ts (leftT t n) := by conv => lhs; unfold leftK
theorem leftK_neg (ts : List Ty) (n : Int) (h : n < 0) : leftK ts n = n := by
  cases ts with
  | nil => exact leftK_nil n
  | cons t ts => rw [leftK_cons, if_pos h]
theorem leftK_step (ts : List Ty) (k : Nat) (n : Int) (h : k < ts.length) (hn : ¬ n < 0) : leftK (ts.drop k) n = leftK (ts.drop (k + 1)) (leftT (tget ts k) n) := by
  rw [drop_tget ts k h, leftK_cons, if_neg hn]
theorem left_range : ∀ m : Nat, (∀ (t : Ty) (n : Int), wt t ≤ m → 0 ≤ n → -1 ≤ leftT t n ∧ leftT t n ≤ n) ∧ (∀ (ts : List Ty) (n : Int), wts ts ≤ m → -1 ≤ n → -1 ≤ leftK ts n ∧ leftK ts n ≤ n) := by
  intro m
  induction m with
  | zero =>
    refine ⟨fun t n h => by have := wt_pos t; omega, fun ts n h hn => ?_⟩
    cases ts with
    | nil => rw [leftK_nil]; omega
    | cons t ts => rw [wts_cons] at h; have := wt_pos t; omega
  | succ m ih =>
    have hT : ∀ (t : Ty) (n : Int), wt t ≤ m + 1 → 0 ≤ n → -1 ≤ leftT t n ∧ leftT t n ≤ n := by
      intro t n h hn
      rw [wt_ks] at h
      rw [leftT_eq]
      have := ih.2 t.ks (n - 1) (by omega) (by omega)
      omega
    refine ⟨hT, ?_⟩
    intro ts
    induction ts with
    | nil => intro n _ hn; rw [leftK_nil]; omega
    | cons t ts ihs =>
      intro n h hn
      rw [wts_cons] at h
      rw [leftK_cons]
      split
      · omega
      · rename_i h0
        have h1 := hT t n (by omega) (by omega)
        have h2 := ihs (leftT t n) (by omega) (by omega)
        omega
theorem left_small : ∀ m : Nat, (∀ (t : Ty) (n : Int), wt t ≤ m → 0 ≤ n → 0 ≤ leftT t n → leftT t n = n - wt t) ∧ (∀ (ts : List Ty) (n : Int), wts ts ≤ m → 0 ≤ n → 0 ≤ leftK ts n → leftK ts n = n - wts ts) := by
  intro m
  induction m with
  | zero =>
    refine ⟨fun t n h => by have := wt_pos t; omega, fun ts n h hn _ => ?_⟩
    cases ts with
    | nil => rw [leftK_nil, wts_nil]; omega
    | cons t ts => rw [wts_cons] at h; have := wt_pos t; omega
  | succ m ih =>
    have hT : ∀ (t : Ty) (n : Int), wt t ≤ m + 1 → 0 ≤ n → 0 ≤ leftT t n → leftT t n = n - wt t := by
      intro t n h hn h0
      rw [leftT_eq] at h0 ⊢
      by_cases hn1 : n - 1 < 0
      · rw [leftK_neg _ _ hn1] at h0; omega
      · have hk := wt_ks t
        have h1 := ih.2 t.ks (n - 1) (by omega) (by omega) h0
        omega
    refine ⟨hT, ?_⟩
    intro ts
    induction ts with
    | nil => intro n _ hn _; rw [leftK_nil, wts_nil]; omega
    | cons t ts ihs =>
      intro n h hn h0
      rw [wts_cons] at h ⊢
      rw [leftK_cons] at h0 ⊢
      rw [if_neg (by omega)] at h0 ⊢
      by_cases hx : leftT t n < 0
      · rw [leftK_neg _ _ hx] at h0; omega
      · have h1 := hT t n (by omega) hn (by omega)
        have h3 := ihs (leftT t n) (by omega) (by omega) h0
        omega
/-- Is it more than is gone through? -/
def greatB (t : Ty) : Bool := decide (leftT t 400 < 0)
/-- What is not great has 400 nodes at most. -/
theorem small_of {t : Ty} (h : greatB t = false) : wt t ≤ 400 := by
  unfold greatB at h
  have h' := of_decide_eq_false h
  have h1 := (left_small (wt t)).1 t 400 (Nat.le_refl _) (by omega) (by omega)
  omega

/-! ### All nodes -/
section
variable (B : Hd → Nat → Bool)
mutual
/-- Does it hold of each node? -/
def allT : Ty → Bool
  | .node h l => B h l.length && allK l
def allK : List Ty → Bool
  | [] => true
  | t :: ts => allT t && allK ts
end
theorem allT_eq (t : Ty) : allT B t = (B t.h t.ks.length && allK B t.ks) := by cases t; conv => lhs; unfold allT
                                                                               rfl
theorem allK_nil : allK B [] = true := by unfold allK; rfl
theorem allK_cons (t : Ty) (ts : List Ty) : allK B (t :: ts) = (allT B t && allK B ts) := by conv => lhs; unfold allK
theorem allK_step (ts : List Ty) (j : Nat) (h : j < ts.length) : allK B (ts.drop j) = (allT B (tget ts j) && allK B (ts.drop (j + 1))) := by
  rw [drop_tget ts j h, allK_cons]
theorem allK_no {ts : List Ty} {j : Nat} (hj : j < ts.length) (h : B (tget ts j).h (tget ts j).ks.length = false) : allK B (ts.drop j) = false := by
  rw [allK_step B ts j hj, allT_eq, h]; rfl
theorem allK_kno {ts : List Ty} {j : Nat} (hj : j < ts.length) (hk : allK B (tget ts j).ks = false) : allK B (ts.drop j) = false := by
  rw [allK_step B ts j hj, allT_eq, hk]; simp
theorem allK_yes {ts : List Ty} {j : Nat} (hj : j < ts.length) (h : B (tget ts j).h (tget ts j).ks.length = true) (hk : allK B (tget ts j).ks = true) : allK B (ts.drop j) = allK B (ts.drop (j + 1)) := by
  rw [allK_step B ts j hj, allT_eq, h, hk]; rfl
theorem allK_get {ts : List Ty} {j : Nat} (hj : j < ts.length) (h : allK B ts = true) : allT B (tget ts j) = true := by
  induction ts generalizing j with
  | nil => simp at hj
  | cons t ts ih =>
    rw [allK_cons, Bool.and_eq_true] at h
    cases j with
    | zero => exact h.1
    | succ j => exact ih (by simpa using hj) h.2
end
/-- How many kids a kind has. -/
def kidsN (k : Int) : Int := if k = 1 ∨ k = 5 then 0 else if k = 3 then 1 else if k = 2 ∨ k = 4 then 2 else -1
/-- May a node be, its kids left out? -/
def nodeB (h : Hd) (n : Nat) : Bool := decide ((n : Int) = kidsN h.k ∧ 0 ≤ h.v ∧ (h.v ≤ 0 ∨ h.k = 5))
abbrev mayT : Ty → Bool := allT nodeB
abbrev mayK : List Ty → Bool := allK nodeB
/-! ### Sameness -/
/-! ### Words -/
theorem bytes_ext {s t : ByteArray} (h : s.data.toList = t.data.toList) : s = t := by
  cases s; cases t
  simp at h
  simp [h]
/-- What a node that may be is. -/
theorem may_node {t : Ty} (h : mayT t = true) : ((t.h.k = 1 ∨ t.h.k = 5) ∧ t.ks.length = 0 ∨ t.h.k = 3 ∧ t.ks.length = 1 ∨ (t.h.k = 2 ∨ t.h.k = 4) ∧ t.ks.length = 2) ∧ 0 ≤ t.h.v ∧ (t.h.v ≤ 0 ∨ t.h.k = 5) ∧ mayK t.ks = true := by
  change allT nodeB t = true at h
  rw [allT_eq, Bool.and_eq_true] at h
  obtain ⟨h1, h2⟩ := h
  unfold nodeB kidsN at h1
  obtain ⟨h3, h4, h5⟩ := of_decide_eq_true h1
  refine ⟨?_, h4, h5, h2⟩
  split at h3
  · left; omega
  · split at h3
    · right; left; omega
    · split at h3
      · right; right; omega
      · omega
theorem may_kid {t : Ty} (h : mayT t = true) {i : Nat} (hi : i < t.ks.length) : mayT (tget t.ks i) = true := allK_get nodeB hi (may_node h).2.2.2
end Types
end Go.Proofs.YtolpdhkgkjnbfaaDoor
namespace Go.Proofs.YtolpdhkgkjnbfaaDoor
open Go.RowKit
set_option linter.unusedVariables false
set_option linter.unusedSimpArgs false
namespace Rt
open Effect (At AtOk AtsAt Rd ofA greatB)

/-! ### The bound -/
mutual
def leftT : RT → Int → Int
  | .node h l, n => if greatB h.e = true then -1 else leftK l (n - 1)
def leftK : List RT → Int → Int
  | [], n => n
  | t :: ts, n => if n < 0 then n else leftK ts (leftT t n)
end
theorem leftT_eq (t : RT) (n : Int) : leftT t n = if greatB t.h.e = true then -1 else leftK t.ks (n - 1) := by cases t; unfold leftT; rfl
theorem leftK_nil (n : Int) : leftK [] n = n := by unfold leftK; rfl
theorem leftK_cons (t : RT) (ts : List RT) (n : Int) : leftK (t :: ts) n = if n < 0 then n else leftK ts (leftT t n) := by conv => lhs; unfold leftK
theorem leftK_neg (ts : List RT) (n : Int) (h : n < 0) : leftK ts n = n := by
  cases ts with
  | nil => exact leftK_nil n
  | cons t ts => rw [leftK_cons, if_pos h]
theorem leftK_step (ts : List RT) (k : Nat) (n : Int) (h : k < ts.length) (hn : ¬ n < 0) : leftK (ts.drop k) n = leftK (ts.drop (k + 1)) (leftT (tget ts k) n) := by
  rw [drop_tget ts k h, leftK_cons, if_neg hn]
theorem left_range : ∀ m : Nat, (∀ (t : RT) (n : Int), wt t ≤ m → 0 ≤ n → -1 ≤ leftT t n ∧ leftT t n ≤ n) ∧ (∀ (ts : List RT) (n : Int), wts ts ≤ m → -1 ≤ n → -1 ≤ leftK ts n ∧ leftK ts n ≤ n) := by
  intro m
  induction m with
  | zero =>
    refine ⟨fun t n h => by have := wt_pos t; omega, fun ts n h hn => ?_⟩
    cases ts with
    | nil => rw [leftK_nil]; omega
    | cons t ts => rw [wts_cons] at h; have := wt_pos t; omega
  | succ m ih =>
    have hT : ∀ (t : RT) (n : Int), wt t ≤ m + 1 → 0 ≤ n → -1 ≤ leftT t n ∧ leftT t n ≤ n := by
      intro t n h hn
      rw [wt_ks] at h
      rw [leftT_eq]
      split
      · omega
      · have := ih.2 t.ks (n - 1) (by omega) (by omega)
        omega
    refine ⟨hT, ?_⟩
    intro ts
    induction ts with
    | nil => intro n _ hn; rw [leftK_nil]; omega
    | cons t ts ihs =>
      intro n h hn
      rw [wts_cons] at h
      rw [leftK_cons]
      split
      · omega
      · rename_i h0
        have h1 := hT t n (by omega) (by omega)
        have h2 := ihs (leftT t n) (by omega) (by omega)
        omega

/-! ### All nodes -/
section
variable (B : Hd → Nat → Bool)
mutual
/-- Does it hold of each node? -/
def allT : RT → Bool
  | .node h l => B h l.length && allK l
def allK : List RT → Bool
  | [] => true
  | t :: ts => allT t && allK ts
end
theorem allT_eq (t : RT) : allT B t = (B t.h t.ks.length && allK B t.ks) := by cases t; conv => lhs; unfold allT
                                                                               rfl
theorem allK_nil : allK B [] = true := by unfold allK; rfl
theorem allK_cons (t : RT) (ts : List RT) : allK B (t :: ts) = (allT B t && allK B ts) := by conv => lhs; unfold allK
theorem allK_step (ts : List RT) (j : Nat) (h : j < ts.length) : allK B (ts.drop j) = (allT B (tget ts j) && allK B (ts.drop (j + 1))) := by
  rw [drop_tget ts j h, allK_cons]
theorem allK_no {ts : List RT} {j : Nat} (hj : j < ts.length) (h : B (tget ts j).h (tget ts j).ks.length = false) : allK B (ts.drop j) = false := by
  rw [allK_step B ts j hj, allT_eq, h]; rfl
theorem allK_kno {ts : List RT} {j : Nat} (hj : j < ts.length) (hk : allK B (tget ts j).ks = false) : allK B (ts.drop j) = false := by
  rw [allK_step B ts j hj, allT_eq, hk]; simp
theorem allK_yes {ts : List RT} {j : Nat} (hj : j < ts.length) (h : B (tget ts j).h (tget ts j).ks.length = true) (hk : allK B (tget ts j).ks = true) : allK B (ts.drop j) = allK B (ts.drop (j + 1)) := by
  rw [allK_step B ts j hj, allT_eq, h, hk]; rfl
theorem allK_get {ts : List RT} {j : Nat} (hj : j < ts.length) (h : allK B ts = true) : allT B (tget ts j) = true := by
  induction ts generalizing j with
  | nil => simp at hj
  | cons t ts ih =>
    rw [allK_cons, Bool.and_eq_true] at h
    cases j with
    | zero => exact h.1
    | succ j => exact ih (by simpa using hj) h.2
end
/-- No effect is great. -/
def smallB (h : Hd) (_ : Nat) : Bool := !greatB h.e
theorem left_small : ∀ m : Nat, (∀ (t : RT) (n : Int), wt t ≤ m → 0 ≤ n → 0 ≤ leftT t n → leftT t n = n - wt t ∧ allT smallB t = true) ∧ (∀ (ts : List RT) (n : Int), wts ts ≤ m → 0 ≤ n → 0 ≤ leftK ts n → leftK ts n = n - wts ts ∧ allK smallB ts = true) := by
  intro m
  induction m with
  | zero =>
    refine ⟨fun t n h => by have := wt_pos t; omega, fun ts n h hn _ => ?_⟩
    cases ts with
    | nil => rw [leftK_nil, wts_nil, allK_nil]; exact ⟨by omega, rfl⟩
    | cons t ts => rw [wts_cons] at h; have := wt_pos t; omega
  | succ m ih =>
    have hT : ∀ (t : RT) (n : Int), wt t ≤ m + 1 → 0 ≤ n → 0 ≤ leftT t n → leftT t n = n - wt t ∧ allT smallB t = true := by
      intro t n h hn h0
      rw [leftT_eq] at h0 ⊢
      by_cases hg : greatB t.h.e = true
      · rw [if_pos hg] at h0; omega
      rw [if_neg hg] at h0 ⊢
      by_cases hn1 : n - 1 < 0
      · rw [leftK_neg _ _ hn1] at h0; omega
      · have hk := wt_ks t
        have h1 := ih.2 t.ks (n - 1) (by omega) (by omega) h0
        refine ⟨by omega, ?_⟩
        rw [allT_eq, h1.2]
        unfold smallB
        simp at hg
        rw [hg]; rfl
    refine ⟨hT, ?_⟩
    intro ts
    induction ts with
    | nil => intro n _ hn _; rw [leftK_nil, wts_nil, allK_nil]; exact ⟨by omega, rfl⟩
    | cons t ts ihs =>
      intro n h hn h0
      rw [wts_cons] at h ⊢
      rw [leftK_cons] at h0 ⊢
      rw [if_neg (by omega)] at h0 ⊢
      by_cases hx : leftT t n < 0
      · rw [leftK_neg _ _ hx] at h0; omega
      · have h1 := hT t n (by omega) hn (by omega)
        have h3 := ihs (leftT t n) (by omega) (by omega) h0
        refine ⟨by omega, ?_⟩
        rw [allK_cons, h1.2, h3.2]; rfl
/-- Is it more than is gone through? -/
def greatT (t : RT) : Bool := decide (leftT t 100 < 0)
theorem small_of {t : RT} (h : greatT t = false) : wt t ≤ 100 ∧ allT smallB t = true := by
  unfold greatT at h
  have h' := of_decide_eq_false h
  have h1 := (left_small (wt t)).1 t 100 (Nat.le_refl _) (by omega) (by omega)
  exact ⟨by omega, h1.2⟩
/-- All effects of up to n atoms, their texts of up to n bytes. -/
def effB (n : Nat) (h : Hd) (_ : Nat) : Bool := decide (h.e.length ≤ n) && h.e.all fun x => decide (x.x.size ≤ n)
theorem eff_iff {n : Nat} {h : Hd} {l : Nat} : effB n h l = true ↔ h.e.length ≤ n ∧ ∀ x ∈ h.e, x.x.size ≤ n := by
  unfold effB
  rw [Bool.and_eq_true, decide_eq_true_iff, List.all_eq_true]
  simp
theorem all_imp {A B : Hd → Nat → Bool} (hAB : ∀ h n, A h n = true → B h n = true) : ∀ m : Nat, (∀ t, wt t ≤ m → allT A t = true → allT B t = true) ∧ (∀ ts, wts ts ≤ m → allK A ts = true → allK B ts = true) := by
  intro m
  induction m with
  | zero =>
    refine ⟨fun t h => by have := wt_pos t; omega, fun ts h _ => ?_⟩
    cases ts with
    | nil => exact allK_nil _
    | cons t ts => rw [wts_cons] at h; have := wt_pos t; omega
  | succ m ih =>
    have hT : ∀ t, wt t ≤ m + 1 → allT A t = true → allT B t = true := by
      intro t h ha
      have hk := wt_ks t
      rw [allT_eq, Bool.and_eq_true] at ha ⊢
      exact ⟨hAB _ _ ha.1, ih.2 t.ks (by omega) ha.2⟩
    refine ⟨hT, fun ts => ?_⟩
    induction ts with
    | nil => intro _ _; exact allK_nil _
    | cons t ts ihs =>
      intro h ha
      rw [wts_cons] at h
      rw [allK_cons, Bool.and_eq_true] at ha ⊢
      exact ⟨hT t (by omega) ha.1, ihs (by omega) ha.2⟩
theorem small_eff {t : RT} (h : greatT t = false) : wt t ≤ 100 ∧ allT (effB 100) t = true :=
  ⟨(small_of h).1, (all_imp (fun h n hh => eff_iff.2 (Effect.great_no (by unfold smallB at hh; simpa using hh))) _).1 t (Nat.le_refl _) (small_of h).2⟩

/-! ### May -/
/-- How many kids a kind has. -/
def kidsN (k : Int) : Int := if k = 1 then 0 else if k = 3 then 1 else if k = 2 ∨ k = 4 then 2 else -1
/-- May a node be, its kids left out? -/
def nodeB (h : Hd) (n : Nat) : Bool := decide ((n : Int) = kidsN h.k ∧ 0 ≤ h.r ∧ (h.k = 1 → h.r ≤ 0) ∧ (h.k ≠ 4 → h.e = []) ∧ h.e = ofA h.e)
abbrev mayT : RT → Bool := allT nodeB
abbrev mayK : List RT → Bool := allK nodeB
theorem mayK_nil : mayK [] = true := allK_nil _
/-- What a node that may be is. -/
theorem may_node {t : RT} (h : mayT t = true) : (t.h.k = 1 ∧ t.ks.length = 0 ∧ t.h.r = 0 ∨ t.h.k = 3 ∧ t.ks.length = 1 ∨ (t.h.k = 2 ∨ t.h.k = 4) ∧ t.ks.length = 2) ∧ 0 ≤ t.h.r ∧ (t.h.k ≠ 4 → t.h.e = []) ∧ t.h.e = ofA t.h.e ∧ mayK t.ks = true := by
  change allT nodeB t = true at h
  rw [allT_eq, Bool.and_eq_true] at h
  obtain ⟨h1, h2⟩ := h
  unfold nodeB kidsN at h1
  obtain ⟨h3, h4, h5, h6, h7⟩ := of_decide_eq_true h1
  refine ⟨?_, h4, h6, h7, h2⟩
  split at h3
  · rename_i hk; left; have := h5 hk; omega
  · split at h3
    · right; left; omega
    · split at h3
      · right; right; omega
      · omega
theorem may_kid {t : RT} (h : mayT t = true) {i : Nat} (hi : i < t.ks.length) : mayT (tget t.ks i) = true := allK_get nodeB hi (may_node h).2.2.2.2
/-! ### Sameness -/
/-! ### Without regions -/
/-! ### Other regions -/
/-! ### Regions -/
end Rt
end Go.Proofs.YtolpdhkgkjnbfaaDoor
namespace Go.Proofs.YtolpdhkgkjnbfaaDoor
open Go.RowKit
set_option linter.unusedVariables false
set_option linter.unusedSimpArgs false
namespace Aterm
open Effect (At AtOk AtsAt Rd RdI)

/-- Is something of a node too great to be gone through? -/
def longB (h : Hd) : Bool := decide (100 < h.h.name.size ∨ 100 < h.h.arg.size ∨ 100 < h.h.exn.size ∨ 50 < h.rhos.length) || Effect.greatB h.e || Rt.greatT h.ty || Rt.greatT h.re
theorem long_no {h : Hd} (hl : longB h = false) : (h.h.name.size ≤ 100 ∧ h.h.arg.size ≤ 100 ∧ h.h.exn.size ≤ 100 ∧ h.rhos.length ≤ 50) ∧ Effect.greatB h.e = false ∧ Rt.greatT h.ty = false ∧ Rt.greatT h.re = false := by
  unfold longB at hl
  simp only [Bool.or_eq_false_iff, decide_eq_false_iff_not] at hl
  exact ⟨by omega, hl.1.1.2, hl.1.2, hl.2⟩
/-! ### The bound -/
mutual
def leftT : AT → Int → Int
  | .node h l, n => if longB h = true then -1 else leftK l (n - 1)
def leftK : List AT → Int → Int
  | [], n => n
  | t :: ts, n => if n < 0 then n else leftK ts (leftT t n)
end
theorem leftT_eq (t : AT) (n : Int) : leftT t n = if longB t.h = true then -1 else leftK t.ks (n - 1) := by cases t; unfold leftT; rfl
theorem leftK_nil (n : Int) : leftK [] n = n := by unfold leftK; rfl
theorem leftK_cons (t : AT) (ts : List AT) (n : Int) : leftK (t :: ts) n = if n < 0 then n else leftK ts (leftT t n) := by conv => lhs; unfold leftK
theorem leftK_neg (ts : List AT) (n : Int) (h : n < 0) : leftK ts n = n := by
  cases ts with
  | nil => exact leftK_nil n
  | cons t ts => rw [leftK_cons, if_pos h]
theorem leftK_step (ts : List AT) (k : Nat) (n : Int) (h : k < ts.length) (hn : ¬ n < 0) : leftK (ts.drop k) n = leftK (ts.drop (k + 1)) (leftT (tget ts k) n) := by
  rw [drop_tget ts k h, leftK_cons, if_neg hn]
theorem left_range : ∀ m : Nat, (∀ (t : AT) (n : Int), wt t ≤ m → 0 ≤ n → -1 ≤ leftT t n ∧ leftT t n ≤ n) ∧ (∀ (ts : List AT) (n : Int), wts ts ≤ m → -1 ≤ n → -1 ≤ leftK ts n ∧ leftK ts n ≤ n) := by
  intro m
  induction m with
  | zero =>
    refine ⟨fun t n h => by have := wt_pos t; omega, fun ts n h hn => ?_⟩
    cases ts with
    | nil => rw [leftK_nil]; omega
    | cons t ts => rw [wts_cons] at h; have := wt_pos t; omega
  | succ m ih =>
    have hT : ∀ (t : AT) (n : Int), wt t ≤ m + 1 → 0 ≤ n → -1 ≤ leftT t n ∧ leftT t n ≤ n := by
      intro t n h hn
      rw [wt_ks] at h
      rw [leftT_eq]
      split
      · omega
      · have := ih.2 t.ks (n - 1) (by omega) (by omega)
        omega
    refine ⟨hT, ?_⟩
    intro ts
    induction ts with
    | nil => intro n _ hn; rw [leftK_nil]; omega
    | cons t ts ihs =>
      intro n h hn
      rw [wts_cons] at h
      rw [leftK_cons]
      split
      · omega
      · rename_i h0
        have h1 := hT t n (by omega) (by omega)
        have h2 := ihs (leftT t n) (by omega) (by omega)
        omega

/-! ### All nodes -/
section
variable (B : Hd → Nat → Bool)
mutual
/-- Does it hold of each node? -/
def allT : AT → Bool
  | .node h l => B h l.length && allK l
def allK : List AT → Bool
  | [] => true
  | t :: ts => allT t && allK ts
end
theorem allT_eq (t : AT) : allT B t = (B t.h t.ks.length && allK B t.ks) := by cases t; conv => lhs; unfold allT
                                                                               rfl
theorem allK_nil : allK B [] = true := by unfold allK; rfl
theorem allK_cons (t : AT) (ts : List AT) : allK B (t :: ts) = (allT B t && allK B ts) := by conv => lhs; unfold allK
theorem allK_step (ts : List AT) (j : Nat) (h : j < ts.length) : allK B (ts.drop j) = (allT B (tget ts j) && allK B (ts.drop (j + 1))) := by
  rw [drop_tget ts j h, allK_cons]
theorem allK_no {ts : List AT} {j : Nat} (hj : j < ts.length) (h : B (tget ts j).h (tget ts j).ks.length = false) : allK B (ts.drop j) = false := by
  rw [allK_step B ts j hj, allT_eq, h]; rfl
theorem allK_kno {ts : List AT} {j : Nat} (hj : j < ts.length) (hk : allK B (tget ts j).ks = false) : allK B (ts.drop j) = false := by
  rw [allK_step B ts j hj, allT_eq, hk]; simp
theorem allK_yes {ts : List AT} {j : Nat} (hj : j < ts.length) (h : B (tget ts j).h (tget ts j).ks.length = true) (hk : allK B (tget ts j).ks = true) : allK B (ts.drop j) = allK B (ts.drop (j + 1)) := by
  rw [allK_step B ts j hj, allT_eq, h, hk]; rfl
theorem allK_get {ts : List AT} {j : Nat} (hj : j < ts.length) (h : allK B ts = true) : allT B (tget ts j) = true := by
  induction ts generalizing j with
  | nil => simp at hj
  | cons t ts ih =>
    rw [allK_cons, Bool.and_eq_true] at h
    cases j with
    | zero => exact h.1
    | succ j => exact ih (by simpa using hj) h.2
end
/-- Nothing is too great. -/
def smallB (h : Hd) (_ : Nat) : Bool := !longB h
theorem left_small : ∀ m : Nat, (∀ (t : AT) (n : Int), wt t ≤ m → 0 ≤ n → 0 ≤ leftT t n → leftT t n = n - wt t ∧ allT smallB t = true) ∧ (∀ (ts : List AT) (n : Int), wts ts ≤ m → 0 ≤ n → 0 ≤ leftK ts n → leftK ts n = n - wts ts ∧ allK smallB ts = true) := by
  intro m
  induction m with
  | zero =>
    refine ⟨fun t n h => by have := wt_pos t; omega, fun ts n h hn _ => ?_⟩
    cases ts with
    | nil => rw [leftK_nil, wts_nil, allK_nil]; exact ⟨by omega, rfl⟩
    | cons t ts => rw [wts_cons] at h; have := wt_pos t; omega
  | succ m ih =>
    have hT : ∀ (t : AT) (n : Int), wt t ≤ m + 1 → 0 ≤ n → 0 ≤ leftT t n → leftT t n = n - wt t ∧ allT smallB t = true := by
      intro t n h hn h0
      rw [leftT_eq] at h0 ⊢
      by_cases hg : longB t.h = true
      · rw [if_pos hg] at h0; omega
      rw [if_neg hg] at h0 ⊢
      by_cases hn1 : n - 1 < 0
      · rw [leftK_neg _ _ hn1] at h0; omega
      · have hk := wt_ks t
        have h1 := ih.2 t.ks (n - 1) (by omega) (by omega) h0
        refine ⟨by omega, ?_⟩
        rw [allT_eq, h1.2]
        unfold smallB
        simp at hg
        rw [hg]; rfl
    refine ⟨hT, ?_⟩
    intro ts
    induction ts with
    | nil => intro n _ hn _; rw [leftK_nil, wts_nil, allK_nil]; exact ⟨by omega, rfl⟩
    | cons t ts ihs =>
      intro n h hn h0
      rw [wts_cons] at h ⊢
      rw [leftK_cons] at h0 ⊢
      rw [if_neg (by omega)] at h0 ⊢
      by_cases hx : leftT t n < 0
      · rw [leftK_neg _ _ hx] at h0; omega
      · have h1 := hT t n (by omega) hn (by omega)
        have h3 := ihs (leftT t n) (by omega) (by omega) h0
        refine ⟨by omega, ?_⟩
        rw [allK_cons, h1.2, h3.2]; rfl
/-- Is it more than is gone through? -/
def greatT (t : AT) : Bool := decide (leftT t 400 < 0)
theorem small_of {t : AT} (h : greatT t = false) : wt t ≤ 400 ∧ allT smallB t = true := by
  unfold greatT at h
  have h' := of_decide_eq_false h
  have h1 := (left_small (wt t)).1 t 400 (Nat.le_refl _) (by omega) (by omega)
  exact ⟨by omega, h1.2⟩
theorem all_imp {A B : Hd → Nat → Bool} (hAB : ∀ h n, A h n = true → B h n = true) : ∀ m : Nat, (∀ t, wt t ≤ m → allT A t = true → allT B t = true) ∧ (∀ ts, wts ts ≤ m → allK A ts = true → allK B ts = true) := by
  intro m
  induction m with
  | zero =>
    refine ⟨fun t h => by have := wt_pos t; omega, fun ts h _ => ?_⟩
    cases ts with
    | nil => exact allK_nil _
    | cons t ts => rw [wts_cons] at h; have := wt_pos t; omega
  | succ m ih =>
    have hT : ∀ t, wt t ≤ m + 1 → allT A t = true → allT B t = true := by
      intro t h ha
      have hk := wt_ks t
      rw [allT_eq, Bool.and_eq_true] at ha ⊢
      exact ⟨hAB _ _ ha.1, ih.2 t.ks (by omega) ha.2⟩
    refine ⟨hT, fun ts => ?_⟩
    induction ts with
    | nil => intro _ _; exact allK_nil _
    | cons t ts ihs =>
      intro h ha
      rw [wts_cons] at h
      rw [allK_cons, Bool.and_eq_true] at ha ⊢
      exact ⟨hT t (by omega) ha.1, ihs (by omega) ha.2⟩

/-! ### The nodes, each ahead of its kids -/
mutual
def flatT : AT → List AT
  | .node h l => .node h l :: flatK l
def flatK : List AT → List AT
  | [] => []
  | t :: ts => flatT t ++ flatK ts
end
theorem flatT_eq (t : AT) : flatT t = t :: flatK t.ks := by cases t; unfold flatT; rfl
theorem flatK_nil : flatK [] = [] := by unfold flatK; rfl
theorem flatK_cons (t : AT) (ts : List AT) : flatK (t :: ts) = flatT t ++ flatK ts := by conv => lhs; unfold flatK
theorem flat_len : ∀ m : Nat, (∀ t, wt t ≤ m → (flatT t).length = wt t) ∧ (∀ ts, wts ts ≤ m → (flatK ts).length = wts ts) := by
  intro m
  induction m with
  | zero =>
    refine ⟨fun t h => by have := wt_pos t; omega, fun ts h => ?_⟩
    cases ts with
    | nil => rw [flatK_nil, wts_nil]; rfl
    | cons t ts => rw [wts_cons] at h; have := wt_pos t; omega
  | succ m ih =>
    have hT : ∀ t, wt t ≤ m + 1 → (flatT t).length = wt t := by
      intro t h
      have hk := wt_ks t
      rw [flatT_eq, List.length_cons, ih.2 t.ks (by omega)]
      omega
    refine ⟨hT, fun ts => ?_⟩
    induction ts with
    | nil => intro _; rw [flatK_nil, wts_nil]; rfl
    | cons t ts ihs =>
      intro h
      rw [wts_cons] at h ⊢
      rw [flatK_cons, List.length_append, hT t (by omega), ihs (by omega)]
theorem flatT_len (t : AT) : (flatT t).length = wt t := (flat_len (wt t)).1 t (Nat.le_refl _)
/-! ### The regions that are bound -/
/-- A node's own. -/
def ownH (h : Hd) : List Int := if h.h.k = 17 then [h.rho] else if h.h.k = 13 then h.rhos else []
mutual
def bindT : AT → List Int
  | .node h l => ownH h ++ bindK l
def bindK : List AT → List Int
  | [] => []
  | t :: ts => bindT t ++ bindK ts
end
theorem bindT_eq (t : AT) : bindT t = ownH t.h ++ bindK t.ks := by
  cases t
  conv => lhs; unfold bindT
  rfl
theorem bindK_nil : bindK [] = [] := by unfold bindK; rfl
theorem bindK_cons (t : AT) (ts : List AT) : bindK (t :: ts) = bindT t ++ bindK ts := by conv => lhs; unfold bindK
/-- Of a list of nodes, one by one. -/
def ownL : List AT → List Int
  | [] => []
  | t :: ts => ownH t.h ++ ownL ts
theorem ownL_append : ∀ ts us : List AT, ownL (ts ++ us) = ownL ts ++ ownL us
  | [], us => rfl
  | t :: ts, us => by rw [List.cons_append, ownL, ownL, ownL_append ts us, List.append_assoc]
theorem bind_flat : ∀ m : Nat, (∀ t, wt t ≤ m → bindT t = ownL (flatT t)) ∧ (∀ ts, wts ts ≤ m → bindK ts = ownL (flatK ts)) := by
  intro m
  induction m with
  | zero =>
    refine ⟨fun t h => by have := wt_pos t; omega, fun ts h => ?_⟩
    cases ts with
    | nil => rw [flatK_nil, bindK_nil]; rfl
    | cons t ts => rw [wts_cons] at h; have := wt_pos t; omega
  | succ m ih =>
    have hT : ∀ t, wt t ≤ m + 1 → bindT t = ownL (flatT t) := by
      intro t h
      have hk := wt_ks t
      rw [flatT_eq, bindT_eq, ownL, ih.2 t.ks (by omega)]
    refine ⟨hT, fun ts => ?_⟩
    induction ts with
    | nil => intro _; rw [flatK_nil, bindK_nil]; rfl
    | cons t ts ihs =>
      intro h
      rw [wts_cons] at h
      rw [flatK_cons, bindK_cons, ownL_append, hT t (by omega), ihs (by omega)]
theorem bindT_flat (t : AT) : bindT t = ownL (flatT t) := (bind_flat (wt t)).1 t (Nat.le_refl _)
/-! ### Apart -/
/-- Among a node's own: is one met already? -/
def metO : List Int → List Int → Bool
  | _, [] => false
  | met, x :: xs => met.contains x || metO (met ++ [x]) xs
/-- The place of the first of some nodes that binds one again. -/
def apartL : List AT → List Int → Option Int
  | [], _ => none
  | t :: ts, met => if metO met (ownH t.h) = true then some t.h.h.pl else apartL ts (met ++ ownH t.h)
def apartT (t : AT) : Option Int := apartL (flatT t) []
/-! ### The same -/
end Aterm
end Go.Proofs.YtolpdhkgkjnbfaaDoor

namespace Go.Proofs.YtolpdhkgkjnbfaaDoor
open Go.RowKit
set_option linter.unusedVariables false
namespace Types

/-- Types by value, one behind the other, their kids in the memory w. -/
def Flat (w : World) : List Value → List Ty → Prop
  | xs, [] => xs = []
  | xs, t :: ts => ∃ q c ys, xs = tcells t.h q t.ks.length c ++ ys ∧ TyIs w t.h q t.ks.length c t ∧ Flat w ys ts
theorem Flat.append {w : World} : ∀ {ts us : List Ty} {xs ys : List Value}, Flat w xs ts → Flat w ys us → Flat w (xs ++ ys) (ts ++ us)
  | [], us, xs, ys, h, k => by
    have : xs = [] := h
    subst this
    exact k
  | t :: ts, us, xs, ys, ⟨q, c, zs, he, hT, h⟩, k => ⟨q, c, zs ++ ys, by rw [he, List.append_assoc], hT, h.append k⟩
theorem Flat.len {w : World} : ∀ {ts : List Ty} {xs : List Value}, Flat w xs ts → xs.length = ts.length * 3
  | [], xs, h => by
    have : xs = [] := h
    subst this
    rfl
  | t :: ts, xs, ⟨q, c, zs, he, _, h⟩ => by
    rw [he, List.length_append, h.len, List.length_cons]
    simp [tcells]
    omega
theorem Flat.one {w : World} {t : Ty} {h : Hd} {q : Option Addr} {l c : Nat} (hT : TyIs w h q l c t) : Flat w (tcells h q l c) [t] := by
  obtain ⟨h1, h2, h3, h4, h5⟩ := hT
  subst h1 h2
  exact ⟨q, c, [], by simp, ⟨rfl, rfl, h3, h4, h5⟩, rfl⟩
theorem Flat.get {w : World} : ∀ {ts : List Ty} {xs : List Value}, Flat w xs ts → ∀ i, i < ts.length → ∃ q c, TyIs w (tget ts i).h q (tget ts i).ks.length c (tget ts i) ∧ ∀ j v, (tcells (tget ts i).h q (tget ts i).ks.length c)[j]? = some v → xs[i * 3 + j]? = some v
  | [], xs, _, i, hi => by simp at hi
  | t :: ts, xs, ⟨q, c, zs, he, hT, h⟩, 0, _ => by
    refine ⟨q, c, hT, fun j v hv => ?_⟩
    rw [he, Nat.zero_mul, Nat.zero_add, List.getElem?_append_left ?_]
    · exact hv
    · rcases Nat.lt_or_ge j (tcells t.h q t.ks.length c).length with h | h
      · exact h
      · rw [List.getElem?_eq_none (by exact h)] at hv; cases hv
  | t :: ts, xs, ⟨q, c, zs, he, hT, h⟩, i + 1, hi => by
    obtain ⟨q', c', h1, h2⟩ := h.get i (by simpa using hi)
    refine ⟨q', c', h1, fun j v hv => ?_⟩
    rw [he, List.getElem?_append_right (by simp [tcells]; omega)]
    have e : (i + 1) * 3 + j - (tcells t.h q t.ks.length c).length = i * 3 + j := by simp [tcells]; omega
    rw [e]
    exact h2 j v hv
theorem Flat.stay {w W : World} (hb : Below w.heap.size w W) : ∀ {ts : List Ty} {xs : List Value}, Flat w xs ts → Flat W xs ts
  | [], xs, h => h
  | t :: ts, xs, ⟨q, c, zs, he, hT, h⟩ => ⟨q, c, zs, he, hT.below hb, h.stay hb⟩
/-- What can be read in the one world reads so in the other. -/
def Reads (w0 W : World) : Prop := ∀ a v, w0.cell? a = some v → W.cell? a = some v
theorem Reads.of_below {w0 W : World} (h : Below w0.heap.size w0 W) : Reads w0 W := fun a v hv => (h.cell (World.block_lt_of_cell? w0 _ hv)).trans hv
theorem Reads.trans {a b c : World} (h : Reads a b) (k : Reads b c) : Reads a c := fun x v hv => k x v (h x v hv)
/-- The world, but for the blocks that aren't looked at. -/
def veil (P : Nat → Bool) (W : World) : World := { W with heap := W.heap.mapIdx fun i o => if P i = true then o else .cells #[] 0 }
theorem veil_at {P : Nat → Bool} {W : World} {b : Nat} (h : P b = true) : (veil P W).heap[b]? = W.heap[b]? := by
  unfold veil
  simp only [Array.getElem?_mapIdx]
  cases W.heap[b]? with
  | none => rfl
  | some o => simp [h]
theorem veil_seen {P : Nat → Bool} {W : World} {a : Addr} {v : Value} (h : (veil P W).cell? a = some v) : P a.block = true ∧ W.cell? a = some v := by
  cases hp : P a.block
  · unfold World.cell? veil at h
    simp only [Array.getElem?_mapIdx] at h
    cases ho : W.heap[a.block]? with
    | none => rw [ho] at h; simp at h
    | some o => rw [ho] at h; simp [hp] at h
  · exact ⟨rfl, by rw [← World.cell?_of_block (veil_at hp)]; exact h⟩
theorem veil_reads (P : Nat → Bool) (W : World) : Reads (veil P W) W := fun a v h => (veil_seen h).2
/-- From one to the other: what is seen of the one stands in the other, and is seen there. -/
theorem veil_to {P P' : Nat → Bool} {W W' : World} (h : ∀ b, b < W.heap.size → P b = true → P' b = true ∧ W'.heap[b]? = W.heap[b]?) : Reads (veil P W) (veil P' W') := fun a v hv => by
  obtain ⟨hp, hw⟩ := veil_seen hv
  obtain ⟨h1, h2⟩ := h a.block (World.block_lt_of_cell? W _ hw) hp
  rw [World.cell?_of_block (veil_at h1), World.cell?_of_block h2]
  exact hw
theorem Kids.reads' {w W : World} {p : Option Addr} {ts : List Ty} (h : Kids w p ts) (hb : Reads w W) : Kids W p ts := by
  induction h with
  | nokids p => exact .nokids p
  | atkids b o ts q c hh hc hl hk ih => exact .atkids b o ts q c hh (fun i hi j v hv => hb _ _ (hc i hi j v hv)) hl (fun i hi => ih i hi)
theorem TyIs.reads' {w W : World} {h : Hd} {p : Option Addr} {l c : Nat} {t : Ty} (k : TyIs w h p l c t) (hb : Reads w W) : TyIs W h p l c t := ⟨k.head, k.len, k.ok, k.cap, k.kids.reads' hb⟩
theorem Flat.reads {w W : World} (hb : Reads w W) : ∀ {ts : List Ty} {xs : List Value}, Flat w xs ts → Flat W xs ts
  | [], xs, h => h
  | t :: ts, xs, ⟨q, c, zs, he, hT, h⟩ => ⟨q, c, zs, he, hT.reads' hb, h.reads hb⟩
/-- A row of types whose kids are there. -/
theorem kids_of_flat {W : World} {b : Nat} {xs : List Value} {ts : List Ty} (hc : ∀ j u, xs[j]? = some u → W.cell? ⟨b, j, none⟩ = some u) (hf : Flat W xs ts) : Kids W (some ⟨b, 0, none⟩) ts := by
  have each : ∀ i, ∃ r : Option Addr × Nat, i < ts.length → TyIs W (tget ts i).h r.1 (tget ts i).ks.length r.2 (tget ts i) ∧ ∀ j v, (tcells (tget ts i).h r.1 (tget ts i).ks.length r.2)[j]? = some v → xs[i * 3 + j]? = some v := by
    intro i
    by_cases hi : i < ts.length
    · obtain ⟨q, c, h1, h2⟩ := hf.get i hi
      exact ⟨(q, c), fun _ => ⟨h1, h2⟩⟩
    · exact ⟨(none, 0), fun h => absurd h hi⟩
  obtain ⟨R, hR⟩ := Classical.axiomOfChoice each
  refine .atkids b 0 ts (fun i => (R i).1) (fun i => (R i).2) (fun i hi => (hR i hi).1.ok) (fun i hi j v hv => ?_) (fun i hi => (hR i hi).1.cap) (fun i hi => (hR i hi).1.kids)
  rw [Nat.zero_add]
  exact hc _ _ ((hR i hi).2 j v hv)
end Types
end Go.Proofs.YtolpdhkgkjnbfaaDoor
namespace Go.Proofs.YtolpdhkgkjnbfaaDoor
open Go.RowKit
set_option linter.unusedVariables false
namespace Types

theorem box_at {w W : World} {cs : Array Value} {ty : TypeId} (hb : Below (w.alloc (.cells cs ty)).heap.size (w.alloc (.cells cs ty)) W) (j : Nat) {v : Value} (hv : cs[j]? = some v) : W.cell? ⟨w.heap.size, j, none⟩ = some v := by
  have hlt : w.heap.size < (w.alloc (.cells cs ty)).heap.size := by simp
  rw [hb.cell (p := ⟨w.heap.size, j, none⟩) hlt, World.cell?_alloc_mark, hv]
theorem box_new {w : World} (O : Obj) : Below w.heap.size w (w.alloc O) := (Below.refl _ _).alloc (Nat.le_refl _) O
theorem below_then {B : Nat} {a w1 w2 : World} (h : Below B a w1) (hb : Below w1.heap.size w1 w2) (hB : B ≤ w1.heap.size) : Below B a w2 := h.trans (hb.mono hB)

end Types
end Go.Proofs.YtolpdhkgkjnbfaaDoor
namespace Go.Proofs.YtolpdhkgkjnbfaaDoor
open Go.RowKit
set_option linter.unusedVariables false
namespace Types

/-- A slice of one type, just laid. -/
theorem kids_one {w : World} {h : Hd} {p : Option Addr} {l c : Nat} {t : Ty} (hT : TyIs w h p l c t) (ty : TypeId) (N : Nat) (hN : N = w.heap.size) :
    Kids (w.alloc (.cells #[.int .u8 h.k, .int .i64 h.v, .slice p l c] ty)) (some ⟨N, 0, none⟩) [t] := by
  subst hN
  have hb : Below w.heap.size w (w.alloc (.cells #[.int .u8 h.k, .int .i64 h.v, .slice p l c] ty)) := (Below.refl _ _).alloc (Nat.le_refl _) _
  have hg : tget [t] 0 = t := rfl
  refine .atkids _ 0 [t] (fun _ => p) (fun _ => c) (fun i hi => ?_) (fun i hi j v hv => ?_) (fun i hi => ?_) (fun i hi => ?_)
  all_goals
    have hi0 : i = 0 := by simp at hi; omega
    subst hi0
  · rw [hg, hT.head]; exact hT.ok
  · rw [hg, hT.head, hT.len] at hv
    rw [show (0 + 0 * 3 + j) = j from by omega, World.cell?_alloc_mark]
    simpa [tcells] using hv
  · rw [hg, hT.len]; exact hT.cap
  · rw [hg]; exact hT.kids.stay hb
theorem one_le : 1 ≤ maxLen := by unfold maxLen; omega
end Types
end Go.Proofs.YtolpdhkgkjnbfaaDoor
namespace Go.Proofs.YtolpdhkgkjnbfaaDoor
open Go.RowKit
set_option linter.unusedVariables false
namespace Types

theorem own_slice {w : World} {base e size n : Nat} {v : Value} {xs : List Value} (h : w.ownsRow base e size v n xs) : ∃ a c, v = .slice a n c ∧ c ≤ maxLen ∧ n ≤ c := by
  rcases h.2 with ⟨hv, h0⟩ | ⟨g, cap, _, hv, _, _, h1, h2, _⟩
  · subst h0; exact ⟨none, 0, hv, by unfold maxLen; omega, Nat.le_refl _⟩
  · exact ⟨_, cap, hv, h2, h1⟩
/-- From block M on. -/
def from_ (M : Nat) (i : Nat) : Bool := decide (M ≤ i)
/-- From block B on, but the row's own. -/
def seen (B : Nat) (v : Value) (i : Nat) : Bool := decide (B ≤ i ∧ v.ownBlock ≠ some i)
theorem seen_iff {B : Nat} {v : Value} {i : Nat} : seen B v i = true ↔ B ≤ i ∧ v.ownBlock ≠ some i := by unfold seen; exact decide_eq_true_iff
end Types
end Go.Proofs.YtolpdhkgkjnbfaaDoor
namespace Go.Proofs.YtolpdhkgkjnbfaaDoor
open Go.RowKit
set_option linter.unusedVariables false
namespace Types

theorem cells3 {W : World} {N : Nat} {a0 a1 a2 : Value} {ty : TypeId} (h : W.heap[N]? = some (.cells #[a0, a1, a2] ty (0, 0))) :
    (W.cell? ⟨N, 0, none⟩ = some a0 ∧ W.cell? ⟨N, 1, none⟩ = some a1 ∧ W.cell? ⟨N, 2, none⟩ = some a2) ∧ (W.frozen? ⟨N, 0, none⟩ = false ∧ W.frozen? ⟨N, 1, none⟩ = false ∧ W.frozen? ⟨N, 2, none⟩ = false) := by
  simp [World.cell?, World.frozen?, h]
end Types
end Go.Proofs.YtolpdhkgkjnbfaaDoor

namespace Go.Proofs.YtolpdhkgkjnbfaaDoor
open Go.RowKit
set_option linter.unusedVariables false
namespace Rt
open Effect (At AtOk AtsAt Rd)
theorem box_at {w W : World} {cs : Array Value} {ty : TypeId} (hb : Below (w.alloc (.cells cs ty)).heap.size (w.alloc (.cells cs ty)) W) (j : Nat) {v : Value} (hv : cs[j]? = some v) : W.cell? ⟨w.heap.size, j, none⟩ = some v := Types.box_at hb j hv
theorem box_new {w : World} (O : Obj) : Below w.heap.size w (w.alloc O) := (Below.refl _ _).alloc (Nat.le_refl _) O
theorem below_then {B : Nat} {a w1 w2 : World} (h : Below B a w1) (hb : Below w1.heap.size w1 w2) (hB : B ≤ w1.heap.size) : Below B a w2 := h.trans (hb.mono hB)
/-- A box of a type with regions, read later. -/
theorem box4 {V W : World} {N : Nat} (hN : N = V.heap.size) {a0 a1 a2 a3 : Value} {ty : TypeId} (hb : Below (V.alloc (.cells #[a0, a1, a2, a3] ty)).heap.size (V.alloc (.cells #[a0, a1, a2, a3] ty)) W) :
    W.cell? ⟨N, 0, none⟩ = some a0 ∧ W.cell? ⟨N, 1, none⟩ = some a1 ∧ W.cell? ⟨N, 2, none⟩ = some a2 ∧ W.cell? ⟨N, 3, none⟩ = some a3 := by
  subst hN
  exact ⟨box_at hb 0 rfl, box_at hb 1 rfl, box_at hb 2 rfl, box_at hb 3 rfl⟩
theorem cap63 {w : World} {h : Hd} {pe : Option Addr} {ne ce : Nat} {p : Option Addr} {l c : Nat} {t : RT} (hT : RtIs w h pe ne ce p l c t) : (l ≤ 9223372036854775807 ∧ ne ≤ 9223372036854775807) := by
  have h1 := hT.cap
  have h2 := hT.eff.cap
  unfold maxLen at h1 h2
  omega
theorem one_le : 1 ≤ maxLen := by unfold maxLen; omega
/-- A slice of one type, just laid. -/
theorem kids_one {w : World} {h : Hd} {pe : Option Addr} {ne ce : Nat} {p : Option Addr} {l c : Nat} {t : RT} (hT : RtIs w h pe ne ce p l c t) (ty : TypeId) (N : Nat) (hN : N = w.heap.size) :
    Kids (w.alloc (.cells #[.int .u8 h.k, .int .i64 h.r, .slice pe ne ce, .slice p l c] ty)) (some ⟨N, 0, none⟩) [t] := by
  subst hN
  have hb : Below w.heap.size w (w.alloc (.cells #[.int .u8 h.k, .int .i64 h.r, .slice pe ne ce, .slice p l c] ty)) := box_new _
  have hg : tget [t] 0 = t := rfl
  have e1 := hT.elen
  refine .atkids _ 0 [t] (fun _ => p) (fun _ => c) (fun _ => pe) (fun _ => ce) (fun i hi => ?_) (fun i hi j v hv => ?_) (fun i hi => ?_) (fun i hi => ?_) (fun i hi => ?_)
  all_goals
    have hi0 : i = 0 := by simp at hi; omega
    subst hi0
  · rw [hg, hT.head]; exact hT.ok
  · rw [hg, hT.head, hT.len, e1] at hv
    rw [show (0 + 0 * 4 + j) = j from by omega, World.cell?_alloc_mark]
    simpa [rcells] using hv
  · rw [hg, hT.len]; exact hT.cap
  · rw [hg, hT.head, e1]; exact hT.eff.below hb
  · rw [hg]; exact hT.kids.stay hb
end Rt
end Go.Proofs.YtolpdhkgkjnbfaaDoor
namespace Go.Proofs.YtolpdhkgkjnbfaaDoor
open Go.RowKit
set_option linter.unusedVariables false
set_option linter.unusedSimpArgs false
namespace Effect

theorem mixed : Tryd.prog.follows .mixedOrders = true := by kernel_rfl
end Effect
end Go.Proofs.YtolpdhkgkjnbfaaDoor
namespace Go.Proofs.YtolpdhkgkjnbfaaDoor
open Go.RowKit
set_option linter.unusedVariables false
set_option linter.unusedSimpArgs false
namespace Rt
open Effect (At AtOk AtsAt Rd ofA greatB ret_i64 ret_bool)

set_option maxRecDepth 10000 in
set_option maxHeartbeats 3200000 in
theorem left_walk : ∀ (m : Nat) (t : RT) (h : Hd) (pe : Option Addr) (ne ce : Nat) (p : Option Addr) (l c : Nat) (n : Int) (w : World), wt t ≤ m → RtIs w h pe ne ce p l c t → 0 ≤ n → n ≤ 100 →
    Calls Tryd.prog 41 #[.agg #[.int .u8 h.k, .int .i64 h.r, .slice pe ne ce, .slice p l c], .int .i64 n] w fun e w' => e = .returned (.int .i64 (leftT t n)) ∧ Below w.heap.size w w' := by
  intro m
  induction m with
  | zero => intro t h pe ne ce p l c n w hm; have := wt_pos t; omega
  | succ m ih =>
    intro t h pe ne ce p l c n w hm hT hn0 hn1
    have hle := leftT_eq t n
    rw [hT.head] at hle
    obtain ⟨hlc, hnc⟩ := cap63 hT
    have hgr := fun O : Obj => Effect.great_walk (c := ce) (hT.eff.below (box_new O)).rd (Nat.le_trans hT.eff.cap.1 hT.eff.cap.2)
    obtain ⟨k, v, e⟩ := h
    simp only at hle hgr
    have hbox : ∀ O : Obj, Below w.heap.size w (w.alloc O) := fun O => box_new O
    have HBOX := Lib.hid hbox; have IH := Lib.hid ih; have HT := Lib.hid hT; have HM := Lib.hid hm; have HGR := Lib.hid hgr
    clear ih hT hm hbox hgr
    by_cases hg : greatB e = true
    · rw [if_pos hg] at hle
      have HLE := Lib.hid hle; have HG := Lib.hid hg
      clear hle hg
      go_enter Tryd.func41, Tryd.ntmps41
      go_wp2_with (fail)
      refine (HGR.out _).mono ?_
      rintro e1 w1 ⟨rfl, rfl⟩
      rw [HG.out]
      go_wp2_with (fail)
      go_ret
      exact ⟨ret_i64 (by rw [HLE.out]), HBOX.out _⟩
    rw [if_neg hg] at hle
    rw [Bool.not_eq_true] at hg
    have HLE := Lib.hid hle; have HG := Lib.hid hg
    clear hle hg
    go_enter Tryd.func41, Tryd.ntmps41
    go_wp2_with (fail)
    refine (HGR.out _).mono ?_
    rintro e1 w1 ⟨rfl, rfl⟩
    rw [HG.out]
    go_wp2_with (fail)
    go_loopw [1, 5] (fun N i wr => ∃ (j : Nat) (M : Int), j ≤ l ∧ i = .int .i64 j ∧ N = .int .i64 M ∧ -1 ≤ M ∧ M ≤ 100 ∧ Hid (leftK t.ks (n - 1) = leftK (t.ks.drop j) M) ∧
      Hid (Below (w.alloc (.cells #[.int .u8 k, .int .i64 v, .slice pe ne ce, .slice p l c] 31)).heap.size (w.alloc (.cells #[.int .u8 k, .int .i64 v, .slice pe ne ce, .slice p l c] 31)) wr)) (fun _ i _ => l - (intOf i).toNat)
    case atStart => exact ⟨0, n - 1, Nat.zero_le _, rfl, rfl, by omega, by omega, Lib.hid (by rw [List.drop_zero]), Lib.hid (Below.refl _ _)⟩
    case round =>
      obtain ⟨j, M, hj, rfl, rfl, hM0, hM1, HLK, HW⟩ := hrel
      obtain ⟨b0, b1, b2, b3⟩ := box4 (N := w.heap.size) rfl HW.out
      have HWW := Lib.hid ((HBOX.out _).trans (HW.out.mono (HBOX.out _).size))
      by_cases hlt : j < l
      · by_cases hneg : M < 0
        · have hr := HLK.out
          rw [leftK_neg _ _ hneg] at hr
          have HR := Lib.hid hr; clear hr
          go_wp2_with (fail)
          go_ret
          exact ⟨ret_i64 (by rw [HLE.out, HR.out]), HWW.out⟩
        · have hjk : j < t.ks.length := by rw [HT.out.len]; exact hlt
          have hst := HLK.out
          rw [leftK_step _ _ _ hjk hneg] at hst
          obtain ⟨b, o, q, c', qe, ce', rfl, hkid, c0, c1, c2, c3⟩ := (HT.out.kids.stay HWW.out).get j hjk
          have hwk := wts_get hjk
          have hwt := wt_ks t
          have hlr1 := (left_range (wt (tget t.ks j))).1 (tget t.ks j) M (Nat.le_refl _) (by omega)
          have HST := Lib.hid hst; have HK := Lib.hid hkid
          have HWK := Lib.hid hwk; have HWT := Lib.hid hwt; have HLR := Lib.hid hlr1
          clear hst hkid hwk hwt hlr1 hjk
          go_wp2_with (fail)
          refine (IH.out (tget t.ks j) _ qe _ ce' q _ c' M _ (by have := HM.out; have := HWK.out; have := HWT.out; omega) HK.out (by omega) hM1).mono ?_
          rintro e w2 ⟨rfl, hb2⟩
          have HW2 := Lib.hid (HW.out.trans (hb2.mono HW.out.size))
          clear hb2 b0 b1 b2 b3 c0 c1 c2 c3
          have hx0 : -1 ≤ leftT (tget t.ks j) M := HLR.out.1
          have hx1 : leftT (tget t.ks j) M ≤ 100 := by have := HLR.out.2; omega
          generalize hX : leftT (tget t.ks j) M = X at *
          have HX := Lib.hid hX; clear hX
          go_wp2
          go_roundw
          case rel => exact ⟨j + 1, X, by omega, by go_num, rfl, hx0, hx1, HST, HW2⟩
          case measure => simp [intOf]; omega
      · obtain rfl : j = l := by omega
        have hr := HLK.out
        rw [List.drop_eq_nil_of_le (by rw [HT.out.len]; exact Nat.le_refl _), leftK_nil] at hr
        have HR := Lib.hid hr; clear hr
        go_wp2_with (fail)
        go_ret
        exact ⟨ret_i64 (by rw [HLE.out, HR.out]), HWW.out⟩
theorem great_walk (t : RT) (h : Hd) (pe : Option Addr) (ne ce : Nat) (p : Option Addr) (l c : Nat) (w : World) (hT : RtIs w h pe ne ce p l c t) :
    Calls Tryd.prog 33 #[.agg #[.int .u8 h.k, .int .i64 h.r, .slice pe ne ce, .slice p l c]] w fun e w' => e = .returned (.bool (greatT t)) ∧ Below w.heap.size w w' := by
  obtain ⟨k, v, e⟩ := h
  have hbox : ∀ O : Obj, Below w.heap.size w (w.alloc O) := fun O => box_new O
  have HBOX := Lib.hid hbox; have HT := Lib.hid hT
  clear hT hbox
  go_enter Tryd.func33, Tryd.ntmps33
  go_wp2_with (fail)
  refine (left_walk _ t _ pe ne ce p l c 100 _ (Nat.le_refl _) (HT.out.below (HBOX.out _)) (by omega) (by omega)).mono ?_
  rintro e w1 ⟨rfl, hb⟩
  have HB := Lib.hid ((HBOX.out _).trans (hb.mono (HBOX.out _).size)); clear hb
  have hg : greatT t = decide (leftT t 100 < 0) := rfl
  have HG := Lib.hid hg; clear hg
  generalize leftT t 100 = X at *
  go_wp2
  go_ret
  exact ⟨ret_bool HG.out.symm, HB.out⟩

/-! ### Size -/
end Rt
end Go.Proofs.YtolpdhkgkjnbfaaDoor
