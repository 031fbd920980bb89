/-Types with regions: mathematics: how many nodes, which may be, which are the same, their regions, what they are without, and their words. The walk of the program's fits: may a node be, its kids left out? Types that lie one behind the other; what can be read in one world and in another; a row of types that grows. The program's way through all nodes of types, with what tells of one node and reads no state: May, Closed, Arrows. The walks of the program's May, Closed, Arrows and Size. The walk of the program's copied: types whose nodes are all new. The walks of the program's of, Int, Pair and Ref. Boxes of types, and what lies in new memory: what types' texts have of it. Boxes of types with regions, and what lies in new memory. -/
import Derived.Test.YtabegjpledammaaGreatDoorGC04
import Derived.Test.YtabegjpledammaaGreatDoorGC05
import Derived.Test.YtabegjpledammaaGreatDoorGC06
import Derived.Test.YtabegjpledammaaGreatDoorGC07
import Derived.BigQuiet
import Derived.Lib.LaidTab
import Derived.OwnWalk
import Derived.Laws.AppendOwn
import Derived.Laws.AppendOwnNone
import Derived.Laws.OwnMore
import Derived.Maps.AppendAt
namespace Go.Proofs.YtabegjpledammaaGreatDoor
open Go.RowKit
set_option linter.unusedVariables false
set_option linter.unusedSimpArgs false
namespace Rt
open Effect (At AtOk AtsAt Rd ofA greatB)

/-! ### The bound -/
mutual
def leftT : RT → Int → Int
  | .node h l, n => if greatB h.e = true then -1 else leftK l (n - 1)
def leftK : List RT → Int → Int
  | [], n => n
  | t :: ts, n => if n < 0 then n else leftK ts (leftT t n)
end
theorem leftT_eq (t : RT) (n : Int) : leftT t n = if greatB t.h.e = true then -1 else leftK t.ks (n - 1) := by cases t; unfold leftT; rfl
theorem leftK_nil (n : Int) : leftK [] n = n := by unfold leftK; rfl
theorem leftK_cons (t : RT) (ts : List RT) (n : Int) : leftK (t :: ts) n = if n < 0 then n else leftK ts (leftT t n) := by conv => lhs; unfold leftK
theorem leftK_neg (ts : List RT) (n : Int) (h : n < 0) : leftK ts n = n := by
  cases ts with
  | nil => exact leftK_nil n
  | cons t ts => rw [leftK_cons, if_pos h]
theorem leftK_step (ts : List RT) (k : Nat) (n : Int) (h : k < ts.length) (hn : ¬ n < 0) : leftK (ts.drop k) n = leftK (ts.drop (k + 1)) (leftT (tget ts k) n) := by
  rw [drop_tget ts k h, leftK_cons, if_neg hn]
theorem left_range : ∀ m : Nat, (∀ (t : RT) (n : Int), wt t ≤ m → 0 ≤ n → -1 ≤ leftT t n ∧ leftT t n ≤ n) ∧ (∀ (ts : List RT) (n : Int), wts ts ≤ m → -1 ≤ n → -1 ≤ leftK ts n ∧ leftK ts n ≤ n) := by
  intro m
  induction m with
  | zero =>
    refine ⟨fun t n h => by have := wt_pos t; omega, fun ts n h hn => ?_⟩
    cases ts with
    | nil => rw [leftK_nil]; omega
    | cons t ts => rw [wts_cons] at h; have := wt_pos t; omega
  | succ m ih =>
    have hT : ∀ (t : RT) (n : Int), wt t ≤ m + 1 → 0 ≤ n → -1 ≤ leftT t n ∧ leftT t n ≤ n := by
      intro t n h hn
      rw [wt_ks] at h
      rw [leftT_eq]
      split
      · omega
      · have := ih.2 t.ks (n - 1) (by omega) (by omega)
        omega
    refine ⟨hT, ?_⟩
    intro ts
    induction ts with
    | nil => intro n _ hn; rw [leftK_nil]; omega
    | cons t ts ihs =>
      intro n h hn
      rw [wts_cons] at h
      rw [leftK_cons]
      split
      · omega
      · rename_i h0
        have h1 := hT t n (by omega) (by omega)
        have h2 := ihs (leftT t n) (by omega) (by omega)
        omega

/-! ### All nodes -/
section
variable (B : Hd → Nat → Bool)
mutual
/-- Does it hold of each node? -/
def allT : RT → Bool
  | .node h l => B h l.length && allK l
def allK : List RT → Bool
  | [] => true
  | t :: ts => allT t && allK ts
end
theorem allT_eq (t : RT) : allT B t = (B t.h t.ks.length && allK B t.ks) := by cases t; conv => lhs; unfold allT
                                                                               rfl
theorem allK_nil : allK B [] = true := by unfold allK; rfl
theorem allK_cons (t : RT) (ts : List RT) : allK B (t :: ts) = (allT B t && allK B ts) := by conv => lhs; unfold allK
theorem allK_step (ts : List RT) (j : Nat) (h : j < ts.length) : allK B (ts.drop j) = (allT B (tget ts j) && allK B (ts.drop (j + 1))) := by
  rw [drop_tget ts j h, allK_cons]
theorem allK_no {ts : List RT} {j : Nat} (hj : j < ts.length) (h : B (tget ts j).h (tget ts j).ks.length = false) : allK B (ts.drop j) = false := by
  rw [allK_step B ts j hj, allT_eq, h]; rfl
theorem allK_kno {ts : List RT} {j : Nat} (hj : j < ts.length) (hk : allK B (tget ts j).ks = false) : allK B (ts.drop j) = false := by
  rw [allK_step B ts j hj, allT_eq, hk]; simp
theorem allK_yes {ts : List RT} {j : Nat} (hj : j < ts.length) (h : B (tget ts j).h (tget ts j).ks.length = true) (hk : allK B (tget ts j).ks = true) : allK B (ts.drop j) = allK B (ts.drop (j + 1)) := by
  rw [allK_step B ts j hj, allT_eq, h, hk]; rfl
theorem allK_get {ts : List RT} {j : Nat} (hj : j < ts.length) (h : allK B ts = true) : allT B (tget ts j) = true := by
  induction ts generalizing j with
  | nil => simp at hj
  | cons t ts ih =>
    rw [allK_cons, Bool.and_eq_true] at h
    cases j with
    | zero => exact h.1
    | succ j => exact ih (by simpa using hj) h.2
theorem allK_one (t : RT) : allK B [t] = allT B t := by rw [allK_cons, allK_nil, Bool.and_true]
end
/-- No effect is great. -/
def smallB (h : Hd) (_ : Nat) : Bool := !greatB h.e
theorem left_small : ∀ m : Nat, (∀ (t : RT) (n : Int), wt t ≤ m → 0 ≤ n → 0 ≤ leftT t n → leftT t n = n - wt t ∧ allT smallB t = true) ∧ (∀ (ts : List RT) (n : Int), wts ts ≤ m → 0 ≤ n → 0 ≤ leftK ts n → leftK ts n = n - wts ts ∧ allK smallB ts = true) := by
  intro m
  induction m with
  | zero =>
    refine ⟨fun t n h => by have := wt_pos t; omega, fun ts n h hn _ => ?_⟩
    cases ts with
    | nil => rw [leftK_nil, wts_nil, allK_nil]; exact ⟨by omega, rfl⟩
    | cons t ts => rw [wts_cons] at h; have := wt_pos t; omega
  | succ m ih =>
    have hT : ∀ (t : RT) (n : Int), wt t ≤ m + 1 → 0 ≤ n → 0 ≤ leftT t n → leftT t n = n - wt t ∧ allT smallB t = true := by
      intro t n h hn h0
      rw [leftT_eq] at h0 ⊢
      by_cases hg : greatB t.h.e = true
      · rw [if_pos hg] at h0; omega
      rw [if_neg hg] at h0 ⊢
      by_cases hn1 : n - 1 < 0
      · rw [leftK_neg _ _ hn1] at h0; omega
      · have hk := wt_ks t
        have h1 := ih.2 t.ks (n - 1) (by omega) (by omega) h0
        refine ⟨by omega, ?_⟩
        rw [allT_eq, h1.2]
        unfold smallB
        simp at hg
        rw [hg]; rfl
    refine ⟨hT, ?_⟩
    intro ts
    induction ts with
    | nil => intro n _ hn _; rw [leftK_nil, wts_nil, allK_nil]; exact ⟨by omega, rfl⟩
    | cons t ts ihs =>
      intro n h hn h0
      rw [wts_cons] at h ⊢
      rw [leftK_cons] at h0 ⊢
      rw [if_neg (by omega)] at h0 ⊢
      by_cases hx : leftT t n < 0
      · rw [leftK_neg _ _ hx] at h0; omega
      · have h1 := hT t n (by omega) hn (by omega)
        have h3 := ihs (leftT t n) (by omega) (by omega) h0
        refine ⟨by omega, ?_⟩
        rw [allK_cons, h1.2, h3.2]; rfl
/-- Is it more than is gone through? -/
def greatT (t : RT) : Bool := decide (leftT t 100 < 0)
theorem small_of {t : RT} (h : greatT t = false) : wt t ≤ 100 ∧ allT smallB t = true := by
  unfold greatT at h
  have h' := of_decide_eq_false h
  have h1 := (left_small (wt t)).1 t 100 (Nat.le_refl _) (by omega) (by omega)
  exact ⟨by omega, h1.2⟩
/-- All effects of up to n atoms, their texts of up to n bytes. -/
def effB (n : Nat) (h : Hd) (_ : Nat) : Bool := decide (h.e.length ≤ n) && h.e.all fun x => decide (x.x.size ≤ n)
theorem eff_iff {n : Nat} {h : Hd} {l : Nat} : effB n h l = true ↔ h.e.length ≤ n ∧ ∀ x ∈ h.e, x.x.size ≤ n := by
  unfold effB
  rw [Bool.and_eq_true, decide_eq_true_iff, List.all_eq_true]
  simp
theorem all_imp {A B : Hd → Nat → Bool} (hAB : ∀ h n, A h n = true → B h n = true) : ∀ m : Nat, (∀ t, wt t ≤ m → allT A t = true → allT B t = true) ∧ (∀ ts, wts ts ≤ m → allK A ts = true → allK B ts = true) := by
  intro m
  induction m with
  | zero =>
    refine ⟨fun t h => by have := wt_pos t; omega, fun ts h _ => ?_⟩
    cases ts with
    | nil => exact allK_nil _
    | cons t ts => rw [wts_cons] at h; have := wt_pos t; omega
  | succ m ih =>
    have hT : ∀ t, wt t ≤ m + 1 → allT A t = true → allT B t = true := by
      intro t h ha
      have hk := wt_ks t
      rw [allT_eq, Bool.and_eq_true] at ha ⊢
      exact ⟨hAB _ _ ha.1, ih.2 t.ks (by omega) ha.2⟩
    refine ⟨hT, fun ts => ?_⟩
    induction ts with
    | nil => intro _ _; exact allK_nil _
    | cons t ts ihs =>
      intro h ha
      rw [wts_cons] at h
      rw [allK_cons, Bool.and_eq_true] at ha ⊢
      exact ⟨hT t (by omega) ha.1, ihs (by omega) ha.2⟩
theorem small_eff {t : RT} (h : greatT t = false) : wt t ≤ 100 ∧ allT (effB 100) t = true :=
  ⟨(small_of h).1, (all_imp (fun h n hh => eff_iff.2 (Effect.great_no (by unfold smallB at hh; simpa using hh))) _).1 t (Nat.le_refl _) (small_of h).2⟩

/-! ### May -/
/-- How many kids a kind has. -/
def kidsN (k : Int) : Int := if k = 1 then 0 else if k = 3 then 1 else if k = 2 ∨ k = 4 then 2 else -1
/-- May a node be, its kids left out? -/
def nodeB (h : Hd) (n : Nat) : Bool := decide ((n : Int) = kidsN h.k ∧ 0 ≤ h.r ∧ (h.k = 1 → h.r ≤ 0) ∧ (h.k ≠ 4 → h.e = []) ∧ h.e = ofA h.e)
abbrev mayT : RT → Bool := allT nodeB
abbrev mayK : List RT → Bool := allK nodeB
theorem mayT_eq (t : RT) : mayT t = (nodeB t.h t.ks.length && mayK t.ks) := allT_eq _ t
theorem mayK_nil : mayK [] = true := allK_nil _
theorem mayK_step (ts : List RT) (j : Nat) (h : j < ts.length) : mayK (ts.drop j) = (mayT (tget ts j) && mayK (ts.drop (j + 1))) := allK_step _ ts j h
/-- What a node that may be is. -/
theorem may_node {t : RT} (h : mayT t = true) : (t.h.k = 1 ∧ t.ks.length = 0 ∧ t.h.r = 0 ∨ t.h.k = 3 ∧ t.ks.length = 1 ∨ (t.h.k = 2 ∨ t.h.k = 4) ∧ t.ks.length = 2) ∧ 0 ≤ t.h.r ∧ (t.h.k ≠ 4 → t.h.e = []) ∧ t.h.e = ofA t.h.e ∧ mayK t.ks = true := by
  change allT nodeB t = true at h
  rw [allT_eq, Bool.and_eq_true] at h
  obtain ⟨h1, h2⟩ := h
  unfold nodeB kidsN at h1
  obtain ⟨h3, h4, h5, h6, h7⟩ := of_decide_eq_true h1
  refine ⟨?_, h4, h6, h7, h2⟩
  split at h3
  · rename_i hk; left; have := h5 hk; omega
  · split at h3
    · right; left; omega
    · split at h3
      · right; right; omega
      · omega
theorem may_kid {t : RT} (h : mayT t = true) {i : Nat} (hi : i < t.ks.length) : mayT (tget t.ks i) = true := allK_get nodeB hi (may_node h).2.2.2.2
theorem wt2 {t : RT} (h : t.ks.length = 2) : wt t = wt (tget t.ks 0) + wt (tget t.ks 1) + 1 := by
  rw [wt_ks]
  match hk : t.ks, h with
  | [a, b], _ => rw [wts_cons, wts_cons, wts_nil]; show _ = wt a + wt b + 1; omega
theorem wt1 {t : RT} (h : t.ks.length = 1) : wt t = wt (tget t.ks 0) + 1 := by
  rw [wt_ks]
  match hk : t.ks, h with
  | [a], _ => rw [wts_cons, wts_nil]; show _ = wt a + 1; omega

/-! ### Sameness -/
mutual
def sameT : RT → RT → Bool
  | .node h l, u => decide (h.k = u.h.k) && decide (h.r = u.h.r) && decide (ofA h.e = ofA u.h.e) && decide (l.length = u.ks.length) && sameK l u.ks
def sameK : List RT → List RT → Bool
  | [], _ => true
  | _ :: _, [] => true
  | t :: ts, u :: us => sameT t u && sameK ts us
end
theorem sameT_eq (t u : RT) : sameT t u = (decide (t.h.k = u.h.k) && decide (t.h.r = u.h.r) && decide (ofA t.h.e = ofA u.h.e) && decide (t.ks.length = u.ks.length) && sameK t.ks u.ks) := by
  cases t
  conv => lhs; unfold sameT
  rfl
theorem sameK_cons (t u : RT) (ts us : List RT) : sameK (t :: ts) (u :: us) = (sameT t u && sameK ts us) := by conv => lhs; unfold sameK
theorem sameK_nil (us : List RT) : sameK [] us = true := by conv => lhs; unfold sameK
theorem sameK_step (ts us : List RT) (j : Nat) (h1 : j < ts.length) (h2 : j < us.length) : sameK (ts.drop j) (us.drop j) = (sameT (tget ts j) (tget us j) && sameK (ts.drop (j + 1)) (us.drop (j + 1))) := by
  rw [drop_tget ts j h1, drop_tget us j h2, sameK_cons]
theorem sameK_no {ts us : List RT} {j : Nat} (h1 : j < ts.length) (h2 : j < us.length) (h : sameT (tget ts j) (tget us j) = false) : sameK (ts.drop j) (us.drop j) = false := by
  rw [sameK_step ts us j h1 h2, h]; rfl
theorem sameK_go {ts us : List RT} {j : Nat} (h1 : j < ts.length) (h2 : j < us.length) (h : sameT (tget ts j) (tget us j) = true) : sameK (ts.drop j) (us.drop j) = sameK (ts.drop (j + 1)) (us.drop (j + 1)) := by
  rw [sameK_step ts us j h1 h2, h]; rfl
theorem same_comm_aux : ∀ m : Nat, (∀ t u, wt t ≤ m → sameT t u = sameT u t) ∧ (∀ ts us : List RT, wts ts ≤ m → ts.length = us.length → sameK ts us = sameK us ts) := by
  intro m
  induction m with
  | zero =>
    refine ⟨fun t u h => by have := wt_pos t; omega, fun ts us h hl => ?_⟩
    cases ts with
    | nil => cases us with
      | nil => rfl
      | cons u us => simp at hl
    | cons t ts => rw [wts_cons] at h; have := wt_pos t; omega
  | succ m ih =>
    have hT : ∀ t u, wt t ≤ m + 1 → sameT t u = sameT u t := by
      intro t u h
      have hk := wt_ks t
      rw [sameT_eq, sameT_eq]
      rw [show decide (t.h.k = u.h.k) = decide (u.h.k = t.h.k) from decide_eq_decide.2 eq_comm, show decide (t.h.r = u.h.r) = decide (u.h.r = t.h.r) from decide_eq_decide.2 eq_comm,
        show decide (ofA t.h.e = ofA u.h.e) = decide (ofA u.h.e = ofA t.h.e) from decide_eq_decide.2 eq_comm, show decide (t.ks.length = u.ks.length) = decide (u.ks.length = t.ks.length) from decide_eq_decide.2 eq_comm]
      by_cases hl : t.ks.length = u.ks.length
      · rw [ih.2 t.ks u.ks (by omega) hl]
      · rw [show decide (u.ks.length = t.ks.length) = false from decide_eq_false fun e => hl e.symm]; simp
    refine ⟨hT, fun ts => ?_⟩
    induction ts with
    | nil => intro us _ hl; cases us with
      | nil => rfl
      | cons u us => simp at hl
    | cons t ts ihs =>
      intro us h hl
      rw [wts_cons] at h
      cases us with
      | nil => simp at hl
      | cons u us => rw [sameK_cons, sameK_cons, hT t u (by omega), ihs us (by omega) (by simpa using hl)]
theorem same_comm (t u : RT) : sameT t u = sameT u t := (same_comm_aux (wt t)).1 t u (Nat.le_refl _)
theorem same_self_aux : ∀ m : Nat, (∀ t, wt t ≤ m → sameT t t = true) ∧ (∀ ts : List RT, wts ts ≤ m → sameK ts ts = true) := by
  intro m
  induction m with
  | zero =>
    refine ⟨fun t h => by have := wt_pos t; omega, fun ts h => ?_⟩
    cases ts with
    | nil => exact sameK_nil _
    | cons t ts => rw [wts_cons] at h; have := wt_pos t; omega
  | succ m ih =>
    have hT : ∀ t, wt t ≤ m + 1 → sameT t t = true := by
      intro t h
      have hk := wt_ks t
      rw [sameT_eq, ih.2 t.ks (by omega)]
      simp
    refine ⟨hT, fun ts => ?_⟩
    induction ts with
    | nil => intro _; exact sameK_nil _
    | cons t ts ihs =>
      intro h
      rw [wts_cons] at h
      rw [sameK_cons, hT t (by omega), ihs (by omega)]; rfl
theorem same_self (t : RT) : sameT t t = true := (same_self_aux (wt t)).1 t (Nat.le_refl _)

/-! ### Without regions -/
mutual
def bareT : RT → Types.Ty
  | .node h l => .node ⟨h.k, 0⟩ (bareK l)
def bareK : List RT → List Types.Ty
  | [] => []
  | t :: ts => bareT t :: bareK ts
end
theorem bareT_eq (t : RT) : bareT t = .node ⟨t.h.k, 0⟩ (bareK t.ks) := by cases t; conv => lhs; unfold bareT
                                                                          rfl
theorem bareK_map : ∀ ts : List RT, bareK ts = ts.map bareT
  | [] => by unfold bareK; rfl
  | t :: ts => by unfold bareK; rw [bareK_map ts]; rfl
theorem bareK_len (ts : List RT) : (bareK ts).length = ts.length := by rw [bareK_map, List.length_map]
theorem bareK_snoc (ts : List RT) (t : RT) : bareK (ts ++ [t]) = bareK ts ++ [bareT t] := by rw [bareK_map, bareK_map]; simp
theorem bare_wt : ∀ m : Nat, (∀ t, wt t ≤ m → Types.wt (bareT t) = wt t) ∧ (∀ ts : List RT, wts ts ≤ m → Types.wts (bareK ts) = wts ts) := by
  intro m
  induction m with
  | zero =>
    refine ⟨fun t h => by have := wt_pos t; omega, fun ts h => ?_⟩
    cases ts with
    | nil => rw [wts_nil]; unfold bareK; exact Types.wts_nil
    | cons t ts => rw [wts_cons] at h; have := wt_pos t; omega
  | succ m ih =>
    have hT : ∀ t, wt t ≤ m + 1 → Types.wt (bareT t) = wt t := by
      intro t h
      have hk := wt_ks t
      rw [bareT_eq, Types.wt_ks]
      show Types.wts (bareK t.ks) + 1 = _
      rw [ih.2 t.ks (by omega)]; omega
    refine ⟨hT, fun ts => ?_⟩
    induction ts with
    | nil => intro _; rw [wts_nil]; unfold bareK; exact Types.wts_nil
    | cons t ts ihs =>
      intro h
      rw [wts_cons] at h
      unfold bareK
      rw [Types.wts_cons, wts_cons, hT t (by omega), ihs (by omega)]
theorem bare_size (t : RT) : Types.wt (bareT t) = wt t := (bare_wt (wt t)).1 t (Nat.le_refl _)
theorem bare_may : ∀ m : Nat, (∀ t, wt t ≤ m → mayT t = true → Types.mayT (bareT t) = true) ∧ (∀ ts : List RT, wts ts ≤ m → mayK ts = true → Types.mayK (bareK ts) = true) := by
  intro m
  induction m with
  | zero =>
    refine ⟨fun t h => by have := wt_pos t; omega, fun ts h _ => ?_⟩
    cases ts with
    | nil => unfold bareK; exact Types.allK_nil _
    | cons t ts => rw [wts_cons] at h; have := wt_pos t; omega
  | succ m ih =>
    have hT : ∀ t, wt t ≤ m + 1 → mayT t = true → Types.mayT (bareT t) = true := by
      intro t h hm
      have hk := wt_ks t
      obtain ⟨h1, -, -, -, h5⟩ := may_node hm
      rw [bareT_eq]
      change Types.allT Types.nodeB _ = true
      rw [Types.allT_eq]
      show (Types.nodeB ⟨t.h.k, 0⟩ (bareK t.ks).length && Types.mayK (bareK t.ks)) = true
      rw [ih.2 t.ks (by omega) h5, bareK_len, Bool.and_true]
      unfold Types.nodeB Types.kidsN
      refine decide_eq_true ⟨?_, by simp, .inl (by simp)⟩
      simp only
      rcases h1 with ⟨a, b, -⟩ | ⟨a, b⟩ | ⟨a | a, b⟩ <;> rw [a, b] <;> simp
    refine ⟨hT, fun ts => ?_⟩
    induction ts with
    | nil => intro _ _; unfold bareK; exact Types.allK_nil _
    | cons t ts ihs =>
      intro h hm
      rw [wts_cons] at h
      change allK nodeB (t :: ts) = true at hm
      rw [allK_cons, Bool.and_eq_true] at hm
      unfold bareK
      change Types.allK Types.nodeB _ = true
      rw [Types.allK_cons]
      exact Bool.and_eq_true_iff.2 ⟨hT t (by omega) hm.1, ihs (by omega) hm.2⟩

/-! ### Other regions -/
mutual
def swapT (f to : List Int) : RT → RT
  | .node h l => .node (if h.k = 1 then h else ⟨h.k, Effect.turnI h.r f to, ofA ((ofA h.e).map (Effect.swapA f to))⟩) (swapK f to l)
def swapK (f to : List Int) : List RT → List RT
  | [] => []
  | t :: ts => swapT f to t :: swapK f to ts
end
def swapH (f to : List Int) (h : Hd) : Hd := if h.k = 1 then h else ⟨h.k, Effect.turnI h.r f to, ofA ((ofA h.e).map (Effect.swapA f to))⟩
theorem swapT_eq (f to : List Int) (t : RT) : swapT f to t = .node (swapH f to t.h) (swapK f to t.ks) := by cases t; conv => lhs; unfold swapT
                                                                                                            rfl
theorem swapK_map (f to : List Int) : ∀ ts : List RT, swapK f to ts = ts.map (swapT f to)
  | [] => by unfold swapK; rfl
  | t :: ts => by unfold swapK; rw [swapK_map f to ts]; rfl
theorem swapK_snoc (f to : List Int) (ts : List RT) (t : RT) : swapK f to (ts ++ [t]) = swapK f to ts ++ [swapT f to t] := by rw [swapK_map, swapK_map]; simp
theorem swap_bare (f to : List Int) : ∀ m : Nat, (∀ t, wt t ≤ m → bareT (swapT f to t) = bareT t) ∧ (∀ ts : List RT, wts ts ≤ m → bareK (swapK f to ts) = bareK ts) := by
  intro m
  induction m with
  | zero =>
    refine ⟨fun t h => by have := wt_pos t; omega, fun ts h => ?_⟩
    cases ts with
    | nil => unfold swapK; rfl
    | cons t ts => rw [wts_cons] at h; have := wt_pos t; omega
  | succ m ih =>
    have hT : ∀ t, wt t ≤ m + 1 → bareT (swapT f to t) = bareT t := by
      intro t h
      have hk := wt_ks t
      rw [swapT_eq, bareT_eq, bareT_eq t]
      show Types.Ty.node ⟨(swapH f to t.h).k, 0⟩ (bareK (swapK f to t.ks)) = _
      rw [ih.2 t.ks (by omega)]
      have : (swapH f to t.h).k = t.h.k := by unfold swapH; split <;> rfl
      rw [this]
    refine ⟨hT, fun ts => ?_⟩
    induction ts with
    | nil => intro _; unfold swapK; rfl
    | cons t ts ihs =>
      intro h
      rw [wts_cons] at h
      unfold swapK bareK
      rw [hT t (by omega), ihs (by omega)]
theorem swap_wt (f to : List Int) : ∀ m : Nat, (∀ t, wt t ≤ m → wt (swapT f to t) = wt t) ∧ (∀ ts : List RT, wts ts ≤ m → wts (swapK f to ts) = wts ts) := by
  intro m
  induction m with
  | zero =>
    refine ⟨fun t h => by have := wt_pos t; omega, fun ts h => ?_⟩
    cases ts with
    | nil => unfold swapK; rfl
    | cons t ts => rw [wts_cons] at h; have := wt_pos t; omega
  | succ m ih =>
    have hT : ∀ t, wt t ≤ m + 1 → wt (swapT f to t) = wt t := by
      intro t h
      have hk := wt_ks t
      rw [swapT_eq, wt_ks]
      show wts (swapK f to t.ks) + 1 = _
      rw [ih.2 t.ks (by omega)]; omega
    refine ⟨hT, fun ts => ?_⟩
    induction ts with
    | nil => intro _; unfold swapK; rfl
    | cons t ts ihs =>
      intro h
      rw [wts_cons] at h
      unfold swapK
      rw [wts_cons, wts_cons, hT t (by omega), ihs (by omega)]

/-! ### Regions -/
/-- A node's own regions. -/
def rhoH (h : Hd) : List Int := if h.k = 1 then [] else h.r :: Effect.tidyI (Effect.rhosOf (ofA h.e))
mutual
def rhoT : RT → List Int
  | .node h l => rhoH h ++ rhoK l
def rhoK : List RT → List Int
  | [] => []
  | t :: ts => rhoT t ++ rhoK ts
end
theorem rhoT_eq (t : RT) : rhoT t = rhoH t.h ++ rhoK t.ks := by cases t; conv => lhs; unfold rhoT
                                                                rfl
theorem rhoK_nil : rhoK [] = [] := by unfold rhoK; rfl
theorem rhoK_cons (t : RT) (ts : List RT) : rhoK (t :: ts) = rhoT t ++ rhoK ts := by conv => lhs; unfold rhoK
theorem rhoK_one (t : RT) : rhoK [t] = rhoT t := by rw [rhoK_cons, rhoK_nil, List.append_nil]
end Rt
end Go.Proofs.YtabegjpledammaaGreatDoor
namespace Go.Proofs.YtabegjpledammaaGreatDoor
open Go.RowKit
set_option linter.unusedVariables false
namespace Types

end Types
end Go.Proofs.YtabegjpledammaaGreatDoor
namespace Go.Proofs.YtabegjpledammaaGreatDoor
open Go.RowKit
set_option linter.unusedVariables false
namespace Types

/-- Types by value, one behind the other, their kids in the memory w. -/
def Flat (w : World) : List Value → List Ty → Prop
  | xs, [] => xs = []
  | xs, t :: ts => ∃ q c ys, xs = tcells t.h q t.ks.length c ++ ys ∧ TyIs w t.h q t.ks.length c t ∧ Flat w ys ts
theorem Flat.append {w : World} : ∀ {ts us : List Ty} {xs ys : List Value}, Flat w xs ts → Flat w ys us → Flat w (xs ++ ys) (ts ++ us)
  | [], us, xs, ys, h, k => by
    have : xs = [] := h
    subst this
    exact k
  | t :: ts, us, xs, ys, ⟨q, c, zs, he, hT, h⟩, k => ⟨q, c, zs ++ ys, by rw [he, List.append_assoc], hT, h.append k⟩
theorem Flat.len {w : World} : ∀ {ts : List Ty} {xs : List Value}, Flat w xs ts → xs.length = ts.length * 3
  | [], xs, h => by
    have : xs = [] := h
    subst this
    rfl
  | t :: ts, xs, ⟨q, c, zs, he, _, h⟩ => by
    rw [he, List.length_append, h.len, List.length_cons]
    simp [tcells]
    omega
theorem Flat.one {w : World} {t : Ty} {h : Hd} {q : Option Addr} {l c : Nat} (hT : TyIs w h q l c t) : Flat w (tcells h q l c) [t] := by
  obtain ⟨h1, h2, h3, h4, h5⟩ := hT
  subst h1 h2
  exact ⟨q, c, [], by simp, ⟨rfl, rfl, h3, h4, h5⟩, rfl⟩
theorem Flat.get {w : World} : ∀ {ts : List Ty} {xs : List Value}, Flat w xs ts → ∀ i, i < ts.length → ∃ q c, TyIs w (tget ts i).h q (tget ts i).ks.length c (tget ts i) ∧ ∀ j v, (tcells (tget ts i).h q (tget ts i).ks.length c)[j]? = some v → xs[i * 3 + j]? = some v
  | [], xs, _, i, hi => by simp at hi
  | t :: ts, xs, ⟨q, c, zs, he, hT, h⟩, 0, _ => by
    refine ⟨q, c, hT, fun j v hv => ?_⟩
    rw [he, Nat.zero_mul, Nat.zero_add, List.getElem?_append_left ?_]
    · exact hv
    · rcases Nat.lt_or_ge j (tcells t.h q t.ks.length c).length with h | h
      · exact h
      · rw [List.getElem?_eq_none (by exact h)] at hv; cases hv
  | t :: ts, xs, ⟨q, c, zs, he, hT, h⟩, i + 1, hi => by
    obtain ⟨q', c', h1, h2⟩ := h.get i (by simpa using hi)
    refine ⟨q', c', h1, fun j v hv => ?_⟩
    rw [he, List.getElem?_append_right (by simp [tcells]; omega)]
    have e : (i + 1) * 3 + j - (tcells t.h q t.ks.length c).length = i * 3 + j := by simp [tcells]; omega
    rw [e]
    exact h2 j v hv
theorem Flat.stay {w W : World} (hb : Below w.heap.size w W) : ∀ {ts : List Ty} {xs : List Value}, Flat w xs ts → Flat W xs ts
  | [], xs, h => h
  | t :: ts, xs, ⟨q, c, zs, he, hT, h⟩ => ⟨q, c, zs, he, hT.below hb, h.stay hb⟩
theorem infoType : (Tryz.prog.info? 37).map (fun i => (i.zero, i.size, i.bytes)) = some (some (.agg #[.int .u8 0, .int .i64 0, .slice none 0 0]), 3, 40) := by kernel_rfl
/-- What can be read in the one world reads so in the other. -/
def Reads (w0 W : World) : Prop := ∀ a v, w0.cell? a = some v → W.cell? a = some v
theorem Reads.of_below {w0 W : World} (h : Below w0.heap.size w0 W) : Reads w0 W := fun a v hv => (h.cell (World.block_lt_of_cell? w0 _ hv)).trans hv
theorem Reads.trans {a b c : World} (h : Reads a b) (k : Reads b c) : Reads a c := fun x v hv => k x v (h x v hv)
/-- The world, but for the blocks that aren't looked at. -/
def veil (P : Nat → Bool) (W : World) : World := { W with heap := W.heap.mapIdx fun i o => if P i = true then o else .cells #[] 0 }
theorem veil_at {P : Nat → Bool} {W : World} {b : Nat} (h : P b = true) : (veil P W).heap[b]? = W.heap[b]? := by
  unfold veil
  simp only [Array.getElem?_mapIdx]
  cases W.heap[b]? with
  | none => rfl
  | some o => simp [h]
theorem veil_seen {P : Nat → Bool} {W : World} {a : Addr} {v : Value} (h : (veil P W).cell? a = some v) : P a.block = true ∧ W.cell? a = some v := by
  cases hp : P a.block
  · unfold World.cell? veil at h
    simp only [Array.getElem?_mapIdx] at h
    cases ho : W.heap[a.block]? with
    | none => rw [ho] at h; simp at h
    | some o => rw [ho] at h; simp [hp] at h
  · exact ⟨rfl, by rw [← World.cell?_of_block (veil_at hp)]; exact h⟩
theorem veil_reads (P : Nat → Bool) (W : World) : Reads (veil P W) W := fun a v h => (veil_seen h).2
/-- From one to the other: what is seen of the one stands in the other, and is seen there. -/
theorem veil_to {P P' : Nat → Bool} {W W' : World} (h : ∀ b, b < W.heap.size → P b = true → P' b = true ∧ W'.heap[b]? = W.heap[b]?) : Reads (veil P W) (veil P' W') := fun a v hv => by
  obtain ⟨hp, hw⟩ := veil_seen hv
  obtain ⟨h1, h2⟩ := h a.block (World.block_lt_of_cell? W _ hw) hp
  rw [World.cell?_of_block (veil_at h1), World.cell?_of_block h2]
  exact hw
theorem Kids.reads' {w W : World} {p : Option Addr} {ts : List Ty} (h : Kids w p ts) (hb : Reads w W) : Kids W p ts := by
  induction h with
  | nokids p => exact .nokids p
  | atkids b o ts q c hh hc hl hk ih => exact .atkids b o ts q c hh (fun i hi j v hv => hb _ _ (hc i hi j v hv)) hl (fun i hi => ih i hi)
theorem TyIs.reads' {w W : World} {h : Hd} {p : Option Addr} {l c : Nat} {t : Ty} (k : TyIs w h p l c t) (hb : Reads w W) : TyIs W h p l c t := ⟨k.head, k.len, k.ok, k.cap, k.kids.reads' hb⟩
theorem Flat.reads {w W : World} (hb : Reads w W) : ∀ {ts : List Ty} {xs : List Value}, Flat w xs ts → Flat W xs ts
  | [], xs, h => h
  | t :: ts, xs, ⟨q, c, zs, he, hT, h⟩ => ⟨q, c, zs, he, hT.reads' hb, h.reads hb⟩
theorem veil_own {P : Nat → Bool} {W : World} {B e size n : Nat} {v : Value} {xs : List Value} (h : W.ownsRow B e size v n xs) (hp : ∀ k, v.ownBlock = some k → P k = true) : (veil P W).ownsRow B e size v n xs := by
  refine ⟨h.1, h.2.imp id ?_⟩
  rintro ⟨g, cap, cur, rfl, hg, hh, r⟩
  exact ⟨g, cap, cur, rfl, hg, by rw [veil_at (hp g rfl)]; exact hh, r⟩
/-- A row of types whose kids are there. -/
theorem kids_of_flat {W : World} {b : Nat} {xs : List Value} {ts : List Ty} (hc : ∀ j u, xs[j]? = some u → W.cell? ⟨b, j, none⟩ = some u) (hf : Flat W xs ts) : Kids W (some ⟨b, 0, none⟩) ts := by
  have each : ∀ i, ∃ r : Option Addr × Nat, i < ts.length → TyIs W (tget ts i).h r.1 (tget ts i).ks.length r.2 (tget ts i) ∧ ∀ j v, (tcells (tget ts i).h r.1 (tget ts i).ks.length r.2)[j]? = some v → xs[i * 3 + j]? = some v := by
    intro i
    by_cases hi : i < ts.length
    · obtain ⟨q, c, h1, h2⟩ := hf.get i hi
      exact ⟨(q, c), fun _ => ⟨h1, h2⟩⟩
    · exact ⟨(none, 0), fun h => absurd h hi⟩
  obtain ⟨R, hR⟩ := Classical.axiomOfChoice each
  refine .atkids b 0 ts (fun i => (R i).1) (fun i => (R i).2) (fun i hi => (hR i hi).1.ok) (fun i hi j v hv => ?_) (fun i hi => (hR i hi).1.cap) (fun i hi => (hR i hi).1.kids)
  rw [Nat.zero_add]
  exact hc _ _ ((hR i hi).2 j v hv)
end Types
end Go.Proofs.YtabegjpledammaaGreatDoor
namespace Go.Proofs.YtabegjpledammaaGreatDoor
open Go.RowKit
set_option linter.unusedVariables false
namespace Types

theorem box_at {w W : World} {cs : Array Value} {ty : TypeId} (hb : Below (w.alloc (.cells cs ty)).heap.size (w.alloc (.cells cs ty)) W) (j : Nat) {v : Value} (hv : cs[j]? = some v) : W.cell? ⟨w.heap.size, j, none⟩ = some v := by
  have hlt : w.heap.size < (w.alloc (.cells cs ty)).heap.size := by simp
  rw [hb.cell (p := ⟨w.heap.size, j, none⟩) hlt, World.cell?_alloc_mark, hv]
theorem box_new {w : World} (O : Obj) : Below w.heap.size w (w.alloc O) := (Below.refl _ _).alloc (Nat.le_refl _) O
theorem below_then {B : Nat} {a w1 w2 : World} (h : Below B a w1) (hb : Below w1.heap.size w1 w2) (hB : B ≤ w1.heap.size) : Below B a w2 := h.trans (hb.mono hB)

end Types
end Go.Proofs.YtabegjpledammaaGreatDoor
namespace Go.Proofs.YtabegjpledammaaGreatDoor
open Go.RowKit
set_option linter.unusedVariables false
namespace Types

/-- A slice of one type, just laid. -/
theorem kids_one {w : World} {h : Hd} {p : Option Addr} {l c : Nat} {t : Ty} (hT : TyIs w h p l c t) (ty : TypeId) (N : Nat) (hN : N = w.heap.size) :
    Kids (w.alloc (.cells #[.int .u8 h.k, .int .i64 h.v, .slice p l c] ty)) (some ⟨N, 0, none⟩) [t] := by
  subst hN
  have hb : Below w.heap.size w (w.alloc (.cells #[.int .u8 h.k, .int .i64 h.v, .slice p l c] ty)) := (Below.refl _ _).alloc (Nat.le_refl _) _
  have hg : tget [t] 0 = t := rfl
  refine .atkids _ 0 [t] (fun _ => p) (fun _ => c) (fun i hi => ?_) (fun i hi j v hv => ?_) (fun i hi => ?_) (fun i hi => ?_)
  all_goals
    have hi0 : i = 0 := by simp at hi; omega
    subst hi0
  · rw [hg, hT.head]; exact hT.ok
  · rw [hg, hT.head, hT.len] at hv
    rw [show (0 + 0 * 3 + j) = j from by omega, World.cell?_alloc_mark]
    simpa [tcells] using hv
  · rw [hg, hT.len]; exact hT.cap
  · rw [hg]; exact hT.kids.stay hb
/-- A box of a type, read later. -/
theorem box3 {V W : World} {N : Nat} (hN : N = V.heap.size) {a0 a1 a2 : Value} {ty : TypeId} (hb : Below (V.alloc (.cells #[a0, a1, a2] ty)).heap.size (V.alloc (.cells #[a0, a1, a2] ty)) W) :
    W.cell? ⟨N, 0, none⟩ = some a0 ∧ W.cell? ⟨N, 1, none⟩ = some a1 ∧ W.cell? ⟨N, 2, none⟩ = some a2 := by
  subst hN
  exact ⟨box_at hb 0 rfl, box_at hb 1 rfl, box_at hb 2 rfl⟩
theorem below_row {B : Nat} {a w1 w2 : World} {O : Obj} (h : Below B a w1) (hb : Below (w1.alloc O).heap.size (w1.alloc O) w2) (hB : B ≤ w1.heap.size) : Below B a w2 :=
  h.trans (((box_new O).trans (hb.mono (by simp))).mono hB)

theorem one_le : 1 ≤ maxLen := by unfold maxLen; omega
end Types
end Go.Proofs.YtabegjpledammaaGreatDoor
namespace Go.Proofs.YtabegjpledammaaGreatDoor
open Go.RowKit
set_option linter.unusedVariables false
namespace Types

theorem own_slice {w : World} {base e size n : Nat} {v : Value} {xs : List Value} (h : w.ownsRow base e size v n xs) : ∃ a c, v = .slice a n c ∧ c ≤ maxLen ∧ n ≤ c := by
  rcases h.2 with ⟨hv, h0⟩ | ⟨g, cap, _, hv, _, _, h1, h2, _⟩
  · subst h0; exact ⟨none, 0, hv, by unfold maxLen; omega, Nat.le_refl _⟩
  · exact ⟨_, cap, hv, h2, h1⟩
theorem own_at {w : World} {base e size n c : Nat} {a : Option Addr} {xs : List Value} (h : w.ownsRow base e size (.slice a n c) n xs) (hn : 0 < n) : ∃ g, a = some ⟨g, 0, none⟩ ∧ base ≤ g := by
  rcases h.2 with ⟨_, h0⟩ | ⟨g, cap, _, hv, hg, _⟩
  · omega
  · injection hv with hv; exact ⟨g, hv, hg⟩
theorem row_cell {w : World} {base e size n c g : Nat} {xs : List Value} (h : w.ownsRow base e size (.slice (some ⟨g, 0, none⟩) n c) n xs) {j : Nat} {u : Value} (hu : xs[j]? = some u) : w.cell? ⟨g, j, none⟩ = some u := by
  have := h.cells (g := g) rfl j u hu
  rw [Addr.add_lit] at this
  simpa using this
/-- From block M on. -/
def from_ (M : Nat) (i : Nat) : Bool := decide (M ≤ i)
/-- From block B on, but the row's own. -/
def seen (B : Nat) (v : Value) (i : Nat) : Bool := decide (B ≤ i ∧ v.ownBlock ≠ some i)
theorem seen_iff {B : Nat} {v : Value} {i : Nat} : seen B v i = true ↔ B ≤ i ∧ v.ownBlock ≠ some i := by unfold seen; exact decide_eq_true_iff
/-- A row of types that grows: its cells, and its types' kids, which lie in none of these. -/
def RowT (B : Nat) (v : Value) (ts : List Ty) (W : World) : Prop := ∃ xs, W.ownsRow B 37 3 v ts.length xs ∧ Flat (veil (seen B v) W) xs ts
theorem RowT.nil (B : Nat) (W : World) : RowT B (.slice none 0 0) [] W := ⟨[], World.ownsRow_nil _ _ _ _, rfl⟩
theorem own_below {W W' : World} {B n : Nat} {v : Value} {xs : List Value} (h : W.ownsRow B 37 3 v n xs) (hb : Below W.heap.size W W') : W'.ownsRow B 37 3 v n xs := by
  refine ⟨h.1, h.2.imp id ?_⟩
  rintro ⟨g, cap, cur, rfl, hg, hh, r⟩
  exact ⟨g, cap, cur, rfl, hg, (hb.block g (lt_of_block hh)).trans hh, r⟩
theorem RowT.below {B : Nat} {v : Value} {ts : List Ty} {W W' : World} (h : RowT B v ts W) (hb : Below W.heap.size W W') : RowT B v ts W' := by
  obtain ⟨xs, h1, h2⟩ := h
  exact ⟨xs, own_below h1 hb, h2.reads (veil_to fun b hbl hp => ⟨hp, hb.block b hbl⟩)⟩
theorem RowT.slice {B : Nat} {v : Value} {ts : List Ty} {W : World} (h : RowT B v ts W) : ∃ a c, v = .slice a ts.length c ∧ c ≤ maxLen ∧ ts.length ≤ c := by
  obtain ⟨xs, h1, _⟩ := h; exact own_slice h1
/-- One type more. -/
theorem row_step {B M : Nat} {v v' : Value} {W W3 : World} {ts : List Ty} {xs : List Value} {t : Ty} {hd : Hd} {q : Option Addr} {l c : Nat}
    (ho : W.ownsRow B 37 3 v ts.length xs) (hf : Flat (veil (seen B v) W) xs ts) (hT : TyIs (veil (from_ M) W) hd q l c t) (hM : B ≤ M) (hg : ∀ g, v.ownBlock = some g → g < M)
    (ho3 : W3.ownsRow B 37 3 v' (ts.length + 1) (xs ++ tcells hd q l c)) (hgr : W.grownBy W3 v.ownBlock) (hat : v'.ownBlock = v.ownBlock ∨ v'.ownBlock = some W.heap.size) : RowT B v' (ts ++ [t]) W3 := by
  refine ⟨xs ++ tcells hd q l c, by rw [List.length_append]; exact ho3, ?_⟩
  have key : ∀ b, b < W.heap.size → B ≤ b → v.ownBlock ≠ some b → seen B v' b = true ∧ W3.heap[b]? = W.heap[b]? := fun b hb h1 h2 => by
    refine ⟨seen_iff.2 ⟨h1, ?_⟩, hgr.block b hb (fun e => h2 e.symm)⟩
    rcases hat with e | e <;> rw [e]
    · exact h2
    · intro e2; injection e2 with e2; omega
  refine (hf.reads (veil_to fun b hb hp => ?_)).append (Flat.one (hT.reads' (veil_to fun b hb hp => ?_)))
  · obtain ⟨h1, h2⟩ := seen_iff.1 hp
    exact key b hb h1 h2
  · have h1 : M ≤ b := of_decide_eq_true hp
    exact key b hb (by omega) (fun e => by have := hg b e; omega)
theorem RowT.kids {B : Nat} {a : Option Addr} {c : Nat} {ts : List Ty} {W : World} (h : RowT B (.slice a ts.length c) ts W) : Kids (veil (from_ B) W) a ts := by
  obtain ⟨xs, h1, h2⟩ := h
  by_cases h0 : ts.length = 0
  · rw [List.length_eq_zero_iff.1 h0]; exact .nokids _
  · obtain ⟨g, rfl, hg⟩ := own_at h1 (by omega)
    have hin : Reads (veil (seen B (.slice (some ⟨g, 0, none⟩) ts.length c)) W) (veil (from_ B) W) := veil_to fun b hb hp => ⟨decide_eq_true (seen_iff.1 hp).1, rfl⟩
    refine kids_of_flat (fun j u hu => ?_) (h2.reads hin)
    have hc := row_cell h1 hu
    rw [World.cell?_of_block (veil_at (decide_eq_true hg))]
    exact hc

theorem new_cells {w : World} {N : Nat} {h : Hd} {q : Option Addr} {l c : Nat} {ty : TypeId} (hN : N = w.heap.size) (j : Nat) : ∀ u, (tcells h q l c)[j]? = some u → (w.alloc (.cells #[.int .u8 h.k, .int .i64 h.v, .slice q l c] ty)).cell? ((⟨N, 0, none⟩ : Addr).add j) = some u := by
  intro u hu
  subst hN
  rw [Addr.add_lit, Nat.zero_add, World.cell?_alloc_mark]
  simpa [tcells] using hu
theorem cells_one (h : Hd) (q : Option Addr) (l c : Nat) : ∀ u ∈ tcells h q l c, u.oneCell' = true := by
  intro u hu
  simp [tcells] at hu
  rcases hu with rfl | rfl | rfl <;> rfl
end Types
end Go.Proofs.YtabegjpledammaaGreatDoor
namespace Go.Proofs.YtabegjpledammaaGreatDoor
open Go.RowKit
set_option linter.unusedVariables false
namespace Types

/-- How it ends: a type whose kids lie in new memory. -/
def OfEnd (k : Int) (ts : List Ty) (w : World) (e : Ending) (w' : World) : Prop :=
  ∃ q c, e = .returned (.agg #[.int .u8 k, .int .i64 0, .slice q ts.length c]) ∧ TyIs (veil (from_ w.heap.size) w') ⟨k, 0⟩ q ts.length c (.node ⟨k, 0⟩ ts) ∧ Below w.heap.size w w'
theorem cells3 {W : World} {N : Nat} {a0 a1 a2 : Value} {ty : TypeId} (h : W.heap[N]? = some (.cells #[a0, a1, a2] ty (0, 0))) :
    (W.cell? ⟨N, 0, none⟩ = some a0 ∧ W.cell? ⟨N, 1, none⟩ = some a1 ∧ W.cell? ⟨N, 2, none⟩ = some a2) ∧ (W.frozen? ⟨N, 0, none⟩ = false ∧ W.frozen? ⟨N, 1, none⟩ = false ∧ W.frozen? ⟨N, 2, none⟩ = false) := by
  simp [World.cell?, World.frozen?, h]
theorem set3_other (W : World) (N : Nat) (a b c : Value) {i : Nat} (hi : i ≠ N) : (((W.setCell ⟨N, 0, none⟩ a).setCell ⟨N, 1, none⟩ b).setCell ⟨N, 2, none⟩ c).heap[i]? = W.heap[i]? := by
  rw [Below.heap_setCell _ _ _ _ hi, Below.heap_setCell _ _ _ _ hi, Below.heap_setCell _ _ _ _ hi]
theorem set3_below {B N : Nat} {W : World} (a b c : Value) (hN : B ≤ N) : Below B W (((W.setCell ⟨N, 0, none⟩ a).setCell ⟨N, 1, none⟩ b).setCell ⟨N, 2, none⟩ c) :=
  (((Below.refl B W).setCell (p := ⟨N, 0, none⟩) hN _).setCell (p := ⟨N, 1, none⟩) hN _).setCell (p := ⟨N, 2, none⟩) hN _

end Types
end Go.Proofs.YtabegjpledammaaGreatDoor
namespace Go.Proofs.YtabegjpledammaaGreatDoor
open Go.RowKit
namespace Types
end Types
end Go.Proofs.YtabegjpledammaaGreatDoor
namespace Go.Proofs.YtabegjpledammaaGreatDoor
open Go.RowKit
set_option linter.unusedVariables false
namespace Rt
open Effect (At AtOk AtsAt Rd)
theorem box_at {w W : World} {cs : Array Value} {ty : TypeId} (hb : Below (w.alloc (.cells cs ty)).heap.size (w.alloc (.cells cs ty)) W) (j : Nat) {v : Value} (hv : cs[j]? = some v) : W.cell? ⟨w.heap.size, j, none⟩ = some v := Types.box_at hb j hv
theorem box_new {w : World} (O : Obj) : Below w.heap.size w (w.alloc O) := (Below.refl _ _).alloc (Nat.le_refl _) O
theorem below_then {B : Nat} {a w1 w2 : World} (h : Below B a w1) (hb : Below w1.heap.size w1 w2) (hB : B ≤ w1.heap.size) : Below B a w2 := h.trans (hb.mono hB)
theorem below_row {B : Nat} {a w1 w2 : World} {O : Obj} (h : Below B a w1) (hb : Below (w1.alloc O).heap.size (w1.alloc O) w2) (hB : B ≤ w1.heap.size) : Below B a w2 :=
  h.trans (((box_new O).trans (hb.mono (by simp))).mono hB)
/-- A box of a type with regions, read later. -/
theorem box4 {V W : World} {N : Nat} (hN : N = V.heap.size) {a0 a1 a2 a3 : Value} {ty : TypeId} (hb : Below (V.alloc (.cells #[a0, a1, a2, a3] ty)).heap.size (V.alloc (.cells #[a0, a1, a2, a3] ty)) W) :
    W.cell? ⟨N, 0, none⟩ = some a0 ∧ W.cell? ⟨N, 1, none⟩ = some a1 ∧ W.cell? ⟨N, 2, none⟩ = some a2 ∧ W.cell? ⟨N, 3, none⟩ = some a3 := by
  subst hN
  exact ⟨box_at hb 0 rfl, box_at hb 1 rfl, box_at hb 2 rfl, box_at hb 3 rfl⟩
theorem cap63 {w : World} {h : Hd} {pe : Option Addr} {ne ce : Nat} {p : Option Addr} {l c : Nat} {t : RT} (hT : RtIs w h pe ne ce p l c t) : (l ≤ 9223372036854775807 ∧ ne ≤ 9223372036854775807) := by
  have h1 := hT.cap
  have h2 := hT.eff.cap
  unfold maxLen at h1 h2
  omega
theorem one_le : 1 ≤ maxLen := by unfold maxLen; omega
/-- A slice of one type, just laid. -/
theorem kids_one {w : World} {h : Hd} {pe : Option Addr} {ne ce : Nat} {p : Option Addr} {l c : Nat} {t : RT} (hT : RtIs w h pe ne ce p l c t) (ty : TypeId) (N : Nat) (hN : N = w.heap.size) :
    Kids (w.alloc (.cells #[.int .u8 h.k, .int .i64 h.r, .slice pe ne ce, .slice p l c] ty)) (some ⟨N, 0, none⟩) [t] := by
  subst hN
  have hb : Below w.heap.size w (w.alloc (.cells #[.int .u8 h.k, .int .i64 h.r, .slice pe ne ce, .slice p l c] ty)) := box_new _
  have hg : tget [t] 0 = t := rfl
  have e1 := hT.elen
  refine .atkids _ 0 [t] (fun _ => p) (fun _ => c) (fun _ => pe) (fun _ => ce) (fun i hi => ?_) (fun i hi j v hv => ?_) (fun i hi => ?_) (fun i hi => ?_) (fun i hi => ?_)
  all_goals
    have hi0 : i = 0 := by simp at hi; omega
    subst hi0
  · rw [hg, hT.head]; exact hT.ok
  · rw [hg, hT.head, hT.len, e1] at hv
    rw [show (0 + 0 * 4 + j) = j from by omega, World.cell?_alloc_mark]
    simpa [rcells] using hv
  · rw [hg, hT.len]; exact hT.cap
  · rw [hg, hT.head, e1]; exact hT.eff.below hb
  · rw [hg]; exact hT.kids.stay hb
end Rt
end Go.Proofs.YtabegjpledammaaGreatDoor
