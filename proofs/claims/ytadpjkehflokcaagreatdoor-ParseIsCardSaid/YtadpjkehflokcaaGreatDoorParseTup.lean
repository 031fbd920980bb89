/- Calls of Term and of Parse, told in one way. -/
import Derived.Test.YtadpjkehflokcaaGreatDoorParsePr3
namespace Go.Proofs.YtadpjkehflokcaaGreatDoor
open Go.RowKit
set_option linter.unusedVariables false
set_option linter.unusedSimpArgs false
namespace Parse
open Token (Tok tel BytesIn lex endT tcells tcell)
open Term (Tm Hd TmIs Kids sameT tget Reads)
open Chars (Bytes BytesAt)

/-- A call of Term, told in one way. -/
theorem term_tuple {xs : List Int} {w w' : World} {e : Ending} (h : TermRet (termRes xs) w e w') : Below w.heap.size w w' ∧
    ∃ k op pl nn nm ar ex p l d a f, e = .returned (.tuple #[.agg #[.int .u8 k, .int .u8 op, .int .i64 pl, .int .i64 nn, .string nm, .string ar, .string ex, .slice p l d], .int .i64 a, .int .i64 f]) ∧
      ((f ≠ 0 ∧ ∀ x, termRes xs ≠ .good x) ∨ (f = 0 ∧ ∃ t, termRes xs = .good t ∧ TmIs w' ⟨k, op, pl, nn, nm, ar, ex⟩ p l d t)) := by
  obtain ⟨hb, (⟨a, k, hr, he⟩ | ⟨t, h, p, l, d, hr, he, hT⟩)⟩ := h
  · refine ⟨hb, 0, 0, 0, 0, ⟨#[]⟩, ⟨#[]⟩, ⟨#[]⟩, none, 0, 0, a, k, he, .inl ⟨?_, (fun x hx => (by rw [hr] at hx; cases hx))⟩⟩
    rintro rfl
    unfold termRes at hr
    split at hr
    · injection hr with _ h2; cases h2
    · split at hr
      · injection hr with _ h2; cases h2
      · rename_i ts hl
        unfold toksRes at hr
        split at hr
        · injection hr with _ h2; cases h2
        · obtain ⟨r, h1⟩ := enough0 (good_of_lex hl).row
          rw [h1] at hr
          unfold resOf at hr
          simp only at hr
          split at hr
          · cases hr
          · injection hr with _ h2; cases h2
  · obtain ⟨k, op, pl, nn, nm, ar, ex⟩ := h
    exact ⟨hb, k, op, pl, nn, nm, ar, ex, p, l, d, 0, 0, he, .inr ⟨rfl, t, hr, hT.reads' (Term.veil_reads _ _)⟩⟩
/-- A call of Parse, told in one way. -/
theorem prog_tuple {xs : List Int} {w w' : World} {e : Ending} (h : ProgRet (progRes xs) w e w') (hx : ∀ ts, lex xs 0 = .inr ts → ts.length ≤ 4000) (hx2 : xs.length ≤ 65536) : Below w.heap.size w w' ∧
    ∃ q m d0 k op pl nn nm ar ex p l d a f, e = .returned (.tuple #[.agg #[.slice q m d0, .int .u8 k, .int .u8 op, .int .i64 pl, .int .i64 nn, .string nm, .string ar, .string ex, .slice p l d], .int .i64 a, .int .i64 f]) ∧
      ((f ≠ 0 ∧ ∀ es x, progRes xs ≠ .good es x) ∨ (f = 0 ∧ ∃ es t, progRes xs = .good es t ∧ w'.ownsRow w.heap.size 46 3 (.slice q m d0) es.length (tcells es) ∧ TmIs w' ⟨k, op, pl, nn, nm, ar, ex⟩ p l d t)) := by
  obtain ⟨hb, (⟨a, k, hr, he⟩ | ⟨es, t, q, m, d0, h, p, l, d, hr, he, hO, hT⟩)⟩ := h
  · refine ⟨hb, none, 0, 0, 0, 0, 0, 0, ⟨#[]⟩, ⟨#[]⟩, ⟨#[]⟩, none, 0, 0, a, k, he, .inl ⟨?_, (fun es x hx => (by rw [hr] at hx; cases hx))⟩⟩
    rintro rfl
    unfold progRes at hr
    rw [if_neg (by omega)] at hr
    cases hl : lex xs 0 with
    | inl j => rw [hl] at hr; injection hr with _ h; cases h
    | inr ts =>
      rw [hl] at hr
      have h' : qtoksRes ts xs.length = .bad a 0 := hr
      unfold qtoksRes at h'
      have := hx ts hl
      rw [if_neg (by omega)] at h'
      obtain ⟨r, hr'⟩ := prog_enough (good_of_lex hl).row
      rw [hr'] at h'
      unfold qresOf at h'
      simp only at h'
      split at h'
      · cases h'
      · injection h' with _ h; cases h
  · obtain ⟨k, op, pl, nn, nm, ar, ex⟩ := h
    exact ⟨hb, q, m, d0, k, op, pl, nn, nm, ar, ex, p, l, d, 0, 0, he, .inr ⟨rfl, es, t, hr, hO, hT.reads' (Term.veil_reads _ _)⟩⟩
/-- Short texts have few tokens. -/
theorem few_toks {xs : List Int} (h : xs.length ≤ 4000) : ∀ ts, lex xs 0 = .inr ts → ts.length ≤ 4000 := fun ts hl => by have := Token.lex_len hl; omega
end Parse
end Go.Proofs.YtadpjkehflokcaaGreatDoor
