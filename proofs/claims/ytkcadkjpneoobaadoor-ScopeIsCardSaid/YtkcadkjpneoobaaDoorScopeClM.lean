/- When a program is closed: mathematics. -/
import Derived.Test.YtkcadkjpneoobaaDoorScopeTgM
import Derived.Test.YtkcadkjpneoobaaDoorScopeJ
namespace Go.Proofs.YtkcadkjpneoobaaDoor
open Go.RowKit
set_option linter.unusedVariables false
set_option linter.unusedSimpArgs false
namespace Scope
open Term (Tm Hd tget wt wts wts_cons wts_nil drop_tget mayT okT okK)
open Words (sel)


def exnQ : List ByteArray → Hd → ByteArray := fun (_ : List ByteArray) (h : Hd) => h.exn
theorem dup_app : ∀ (ys : List Ex) (ds : List ByteArray) (x : Ex), (dupF ds (ys ++ [x])).isNone = ((dupF ds ys).isNone && !hasB (ds ++ names ys) x.s)
  | [], ds, x => by
    have e : ds ++ names [] = ds := by unfold names; simp
    rw [List.nil_append, dupF, dupF, e]
    cases hasB ds x.s <;> simp [dupF]
  | y :: ys, ds, x => by
    have e : ds ++ names (y :: ys) = (ds ++ [y.s]) ++ names ys := by unfold names; simp
    rw [List.cons_append, dupF, dupF, e]
    cases hh : hasB ds y.s
    · rw [if_neg Bool.false_ne_true, if_neg Bool.false_ne_true]
      exact dup_app ys _ x
    · rw [if_pos rfl, if_pos rfl]
      simp
theorem dup_take (xs : List Ex) (j : Nat) (hj : j < xs.length) : (dupF [] (xs.take (j + 1))).isNone = ((dupF [] (xs.take j)).isNone && !hasB (names (xs.take j)) (eget xs j).s) := by
  have e : xs.take (j + 1) = xs.take j ++ [eget xs j] := by
    unfold eget
    rw [List.take_add_one, List.getElem?_eq_getElem hj, List.getD_eq_getElem?_getD, List.getElem?_eq_getElem hj]
    rfl
  rw [e, dup_app, List.nil_append]
theorem all_take (s : List ByteArray) (f : ByteArray → Bool) (j : Nat) (hj : j < s.length) : (s.take (j + 1)).all f = ((s.take j).all f && f (sel s j)) := by
  rw [take_sel s j hj, List.all_append]
  simp
/-- What the statement reckons. -/
def okC (xs : List Ex) (t : Tm) : Bool := (((decide (xs.length ≤ 64) && decide ((metF freeP [t]).length = 0)) && (dupF [] xs).isNone) && (metF exnQ [t]).all (hasB (names xs)))
theorem vis_one (t : Tm) : vis [t] = visT t [] := by unfold vis; simp
theorem err_zero {decl : List ByteArray} {t : Tm} : (scT (clB decl) (clS decl) t [] (0, 0)).2.2 = 0 ↔ ∀ p ∈ visT t [], clN decl p.1 p.2 = true := by
  rw [scT_cl decl (wt t) t [] (0, 0) (Nat.le_refl _)]
  cases hf : (visT t []).find? (fun p => !clN decl p.1 p.2) with
  | none =>
    refine ⟨fun _ p hp => ?_, fun _ => rfl⟩
    have := List.find?_eq_none.1 hf p hp
    simpa using this
  | some p =>
    refine ⟨fun h => ?_, fun h => ?_⟩
    · have h4 : (4 : Int) = 0 := h
      omega
    · have h1 := List.find?_some hf
      have h2 := h p (List.mem_of_find?_eq_some hf)
      simp [h2] at h1
theorem closed_iff (xs : List Ex) (t : Tm) (hm : mayT t = true) : ((closedF xs t).2 == 0) = okC xs t := by
  unfold closedF
  rw [if_neg (by rw [hm]; simp)]
  have hmm : [t].all mayT = true := by simp [hm]
  by_cases h64 : 64 < xs.length
  · rw [if_pos h64]
    unfold okC
    rw [decide_eq_false (by omega)]
    rfl
  · rw [if_neg h64]
    cases hd : dupF [] xs with
    | some a =>
      unfold okC
      rw [hd]
      simp
    | none =>
      show ((scT (clB (names xs)) (clS (names xs)) t [] (0, 0)).2.2 == 0) = okC xs t
      rw [Bool.eq_iff_iff, beq_iff_eq, err_zero]
      unfold okC
      rw [hd, decide_eq_true (by omega : xs.length ≤ 64)]
      simp only [Bool.true_and, Option.isNone_none, Bool.and_true, Bool.and_eq_true, decide_eq_true_eq, List.length_eq_zero_iff]
      rw [metF_eq freeP [t] hmm, metF_eq exnQ [t] hmm, putL_nil_iff, List.all_eq_true, vis_one]
      unfold looks
      constructor
      · intro h
        refine ⟨fun x hx => ?_, fun x hx => ?_⟩
        · obtain ⟨p, hp, rfl⟩ := List.mem_map.1 hx
          have := h p hp
          unfold clN at this
          rw [Bool.and_eq_true] at this
          exact of_decide_eq_true this.1
        · rcases (putL_mem _ _ x).1 hx with k | ⟨k, e⟩
          · cases k
          · obtain ⟨p, hp, rfl⟩ := List.mem_map.1 k
            have := h p hp
            unfold clN at this
            rw [Bool.and_eq_true, Bool.or_eq_true] at this
            rcases this.2 with h1 | h1
            · exact absurd (of_decide_eq_true h1) e
            · exact h1
      · rintro ⟨h1, h2⟩ p hp
        unfold clN
        rw [Bool.and_eq_true, Bool.or_eq_true]
        refine ⟨decide_eq_true (h1 _ (List.mem_map.2 ⟨p, hp, rfl⟩)), ?_⟩
        by_cases e : p.2.exn = ⟨#[]⟩
        · exact .inl (decide_eq_true e)
        · exact .inr (h2 _ ((putL_mem _ _ _).2 (.inr ⟨List.mem_map.2 ⟨p, hp, rfl⟩, e⟩)))
end Scope
end Go.Proofs.YtkcadkjpneoobaaDoor
