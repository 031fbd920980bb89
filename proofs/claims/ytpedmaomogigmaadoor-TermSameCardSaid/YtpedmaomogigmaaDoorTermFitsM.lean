/- What may be of a node, kind by kind: just its fields, and what they hold. -/
import Derived.Test.YtpedmaomogigmaaDoorTermNodeW
import Derived.Test.YtpedmaomogigmaaDoorTermJust
import Derived.Test.YtpedmaomogigmaaDoorWordsAllW
namespace Go.Proofs.YtpedmaomogigmaaDoor
open Go.RowKit
set_option linter.unusedVariables false
namespace Term
open Words (nameB exnB)

theorem fitsB_none (s : ByteArray) (ok : Bool) : fitsB false s ok = decide (s = ⟨#[]⟩) := by
  unfold fitsB
  rw [if_neg Bool.false_ne_true, decide_eq_decide]
  constructor
  · intro h
    obtain ⟨⟨l⟩⟩ := s
    have : l.length = 0 := h
    rw [List.length_eq_zero_iff.1 this]
  · intro h; rw [h]; rfl
theorem fitsB_there (s : ByteArray) (ok : Bool) : fitsB true s ok = ok := by unfold fitsB; rw [if_pos rfl]
theorem node_is1 (op pl nn : Int) (nm ar ex : ByteArray) (l : Nat) : nodeB ⟨1, op, pl, nn, nm, ar, ex⟩ l = (justB ⟨1, op, pl, nn, nm, ar, ex⟩ ⟨0, 0, 0, nn, ⟨#[]⟩, ⟨#[]⟩, ⟨#[]⟩⟩ l 0 && decide (0 ≤ nn ∧ nn ≤ 2147483647)) := by
  have hk : kidsN 1 = 0 := by decide
  have h1 : nameF 1 = false := by decide
  have h2 : argF 1 = false := by decide
  have h3 : exnF 1 = false := by decide
  unfold nodeB justB justP opOk nOk
  simp only [hk, h1, h2, h3, fitsB_none]
  rw [Bool.eq_iff_iff]
  simp only [Bool.and_eq_true, decide_eq_true_eq]
  generalize nameB nm = x1
  generalize nameB ar = x2
  generalize exnB ex = x3
  grind
theorem node_is2 (op pl nn : Int) (nm ar ex : ByteArray) (l : Nat) : nodeB ⟨2, op, pl, nn, nm, ar, ex⟩ l = (justB ⟨2, op, pl, nn, nm, ar, ex⟩ ⟨0, 0, 0, 0, nm, ⟨#[]⟩, ⟨#[]⟩⟩ l 0 && nameB nm) := by
  have hk : kidsN 2 = 0 := by decide
  have h1 : nameF 2 = true := by decide
  have h2 : argF 2 = false := by decide
  have h3 : exnF 2 = false := by decide
  unfold nodeB justB justP opOk nOk
  simp only [hk, h1, h2, h3, fitsB_none, fitsB_there]
  rw [Bool.eq_iff_iff]
  simp only [Bool.and_eq_true, decide_eq_true_eq]
  generalize nameB nm = x1
  generalize nameB ar = x2
  generalize exnB ex = x3
  grind
theorem node_is3 (op pl nn : Int) (nm ar ex : ByteArray) (l : Nat) : nodeB ⟨3, op, pl, nn, nm, ar, ex⟩ l = (justB ⟨3, op, pl, nn, nm, ar, ex⟩ ⟨0, 0, 0, 0, ⟨#[]⟩, ⟨#[]⟩, ⟨#[]⟩⟩ l 2) := by
  have hk : kidsN 3 = 2 := by decide
  have h1 : nameF 3 = false := by decide
  have h2 : argF 3 = false := by decide
  have h3 : exnF 3 = false := by decide
  unfold nodeB justB justP opOk nOk
  simp only [hk, h1, h2, h3, fitsB_none]
  rw [Bool.eq_iff_iff]
  simp only [Bool.and_eq_true, decide_eq_true_eq]
  generalize nameB nm = x1
  generalize nameB ar = x2
  generalize exnB ex = x3
  grind
theorem node_is4 (op pl nn : Int) (nm ar ex : ByteArray) (l : Nat) : nodeB ⟨4, op, pl, nn, nm, ar, ex⟩ l = (justB ⟨4, op, pl, nn, nm, ar, ex⟩ ⟨0, 0, 0, 0, ⟨#[]⟩, ⟨#[]⟩, ⟨#[]⟩⟩ l 1) := by
  have hk : kidsN 4 = 1 := by decide
  have h1 : nameF 4 = false := by decide
  have h2 : argF 4 = false := by decide
  have h3 : exnF 4 = false := by decide
  unfold nodeB justB justP opOk nOk
  simp only [hk, h1, h2, h3, fitsB_none]
  rw [Bool.eq_iff_iff]
  simp only [Bool.and_eq_true, decide_eq_true_eq]
  generalize nameB nm = x1
  generalize nameB ar = x2
  generalize exnB ex = x3
  grind
theorem node_is5 (op pl nn : Int) (nm ar ex : ByteArray) (l : Nat) : nodeB ⟨5, op, pl, nn, nm, ar, ex⟩ l = (justB ⟨5, op, pl, nn, nm, ar, ex⟩ ⟨0, 0, 0, 0, ⟨#[]⟩, ⟨#[]⟩, ⟨#[]⟩⟩ l 1) := by
  have hk : kidsN 5 = 1 := by decide
  have h1 : nameF 5 = false := by decide
  have h2 : argF 5 = false := by decide
  have h3 : exnF 5 = false := by decide
  unfold nodeB justB justP opOk nOk
  simp only [hk, h1, h2, h3, fitsB_none]
  rw [Bool.eq_iff_iff]
  simp only [Bool.and_eq_true, decide_eq_true_eq]
  generalize nameB nm = x1
  generalize nameB ar = x2
  generalize exnB ex = x3
  grind
theorem node_is6 (op pl nn : Int) (nm ar ex : ByteArray) (l : Nat) : nodeB ⟨6, op, pl, nn, nm, ar, ex⟩ l = (justB ⟨6, op, pl, nn, nm, ar, ex⟩ ⟨0, 0, 0, 0, ⟨#[]⟩, ⟨#[]⟩, ⟨#[]⟩⟩ l 1) := by
  have hk : kidsN 6 = 1 := by decide
  have h1 : nameF 6 = false := by decide
  have h2 : argF 6 = false := by decide
  have h3 : exnF 6 = false := by decide
  unfold nodeB justB justP opOk nOk
  simp only [hk, h1, h2, h3, fitsB_none]
  rw [Bool.eq_iff_iff]
  simp only [Bool.and_eq_true, decide_eq_true_eq]
  generalize nameB nm = x1
  generalize nameB ar = x2
  generalize exnB ex = x3
  grind
theorem node_is7 (op pl nn : Int) (nm ar ex : ByteArray) (l : Nat) : nodeB ⟨7, op, pl, nn, nm, ar, ex⟩ l = (justB ⟨7, op, pl, nn, nm, ar, ex⟩ ⟨0, 0, 0, 0, ⟨#[]⟩, ⟨#[]⟩, ⟨#[]⟩⟩ l 1) := by
  have hk : kidsN 7 = 1 := by decide
  have h1 : nameF 7 = false := by decide
  have h2 : argF 7 = false := by decide
  have h3 : exnF 7 = false := by decide
  unfold nodeB justB justP opOk nOk
  simp only [hk, h1, h2, h3, fitsB_none]
  rw [Bool.eq_iff_iff]
  simp only [Bool.and_eq_true, decide_eq_true_eq]
  generalize nameB nm = x1
  generalize nameB ar = x2
  generalize exnB ex = x3
  grind
theorem node_is8 (op pl nn : Int) (nm ar ex : ByteArray) (l : Nat) : nodeB ⟨8, op, pl, nn, nm, ar, ex⟩ l = (justB ⟨8, op, pl, nn, nm, ar, ex⟩ ⟨0, 0, 0, 0, ⟨#[]⟩, ⟨#[]⟩, ⟨#[]⟩⟩ l 2) := by
  have hk : kidsN 8 = 2 := by decide
  have h1 : nameF 8 = false := by decide
  have h2 : argF 8 = false := by decide
  have h3 : exnF 8 = false := by decide
  unfold nodeB justB justP opOk nOk
  simp only [hk, h1, h2, h3, fitsB_none]
  rw [Bool.eq_iff_iff]
  simp only [Bool.and_eq_true, decide_eq_true_eq]
  generalize nameB nm = x1
  generalize nameB ar = x2
  generalize exnB ex = x3
  grind
theorem node_is9 (op pl nn : Int) (nm ar ex : ByteArray) (l : Nat) : nodeB ⟨9, op, pl, nn, nm, ar, ex⟩ l = (justB ⟨9, op, pl, nn, nm, ar, ex⟩ ⟨0, op, 0, 0, ⟨#[]⟩, ⟨#[]⟩, ⟨#[]⟩⟩ l 2 && decide (1 ≤ op ∧ op ≤ 5)) := by
  have hk : kidsN 9 = 2 := by decide
  have h1 : nameF 9 = false := by decide
  have h2 : argF 9 = false := by decide
  have h3 : exnF 9 = false := by decide
  unfold nodeB justB justP opOk nOk
  simp only [hk, h1, h2, h3, fitsB_none]
  rw [Bool.eq_iff_iff]
  simp only [Bool.and_eq_true, decide_eq_true_eq]
  generalize nameB nm = x1
  generalize nameB ar = x2
  generalize exnB ex = x3
  grind
theorem node_is10 (op pl nn : Int) (nm ar ex : ByteArray) (l : Nat) : nodeB ⟨10, op, pl, nn, nm, ar, ex⟩ l = (justB ⟨10, op, pl, nn, nm, ar, ex⟩ ⟨0, 0, 0, 0, ⟨#[]⟩, ⟨#[]⟩, ⟨#[]⟩⟩ l 2) := by
  have hk : kidsN 10 = 2 := by decide
  have h1 : nameF 10 = false := by decide
  have h2 : argF 10 = false := by decide
  have h3 : exnF 10 = false := by decide
  unfold nodeB justB justP opOk nOk
  simp only [hk, h1, h2, h3, fitsB_none]
  rw [Bool.eq_iff_iff]
  simp only [Bool.and_eq_true, decide_eq_true_eq]
  generalize nameB nm = x1
  generalize nameB ar = x2
  generalize exnB ex = x3
  grind
theorem node_is11 (op pl nn : Int) (nm ar ex : ByteArray) (l : Nat) : nodeB ⟨11, op, pl, nn, nm, ar, ex⟩ l = (justB ⟨11, op, pl, nn, nm, ar, ex⟩ ⟨0, 0, 0, 0, ⟨#[]⟩, ar, ⟨#[]⟩⟩ l 1 && nameB ar) := by
  have hk : kidsN 11 = 1 := by decide
  have h1 : nameF 11 = false := by decide
  have h2 : argF 11 = true := by decide
  have h3 : exnF 11 = false := by decide
  unfold nodeB justB justP opOk nOk
  simp only [hk, h1, h2, h3, fitsB_none, fitsB_there]
  rw [Bool.eq_iff_iff]
  simp only [Bool.and_eq_true, decide_eq_true_eq]
  generalize nameB nm = x1
  generalize nameB ar = x2
  generalize exnB ex = x3
  grind
theorem node_is12 (op pl nn : Int) (nm ar ex : ByteArray) (l : Nat) : nodeB ⟨12, op, pl, nn, nm, ar, ex⟩ l = (justB ⟨12, op, pl, nn, nm, ar, ex⟩ ⟨0, 0, 0, 0, nm, ⟨#[]⟩, ⟨#[]⟩⟩ l 2 && nameB nm) := by
  have hk : kidsN 12 = 2 := by decide
  have h1 : nameF 12 = true := by decide
  have h2 : argF 12 = false := by decide
  have h3 : exnF 12 = false := by decide
  unfold nodeB justB justP opOk nOk
  simp only [hk, h1, h2, h3, fitsB_none, fitsB_there]
  rw [Bool.eq_iff_iff]
  simp only [Bool.and_eq_true, decide_eq_true_eq]
  generalize nameB nm = x1
  generalize nameB ar = x2
  generalize exnB ex = x3
  grind
theorem node_is13 (op pl nn : Int) (nm ar ex : ByteArray) (l : Nat) : nodeB ⟨13, op, pl, nn, nm, ar, ex⟩ l = (justB ⟨13, op, pl, nn, nm, ar, ex⟩ ⟨0, 0, 0, 0, nm, ar, ⟨#[]⟩⟩ l 2 && (nameB nm && nameB ar)) := by
  have hk : kidsN 13 = 2 := by decide
  have h1 : nameF 13 = true := by decide
  have h2 : argF 13 = true := by decide
  have h3 : exnF 13 = false := by decide
  unfold nodeB justB justP opOk nOk
  simp only [hk, h1, h2, h3, fitsB_none, fitsB_there]
  rw [Bool.eq_iff_iff]
  simp only [Bool.and_eq_true, decide_eq_true_eq]
  generalize nameB nm = x1
  generalize nameB ar = x2
  generalize exnB ex = x3
  grind
theorem node_is14 (op pl nn : Int) (nm ar ex : ByteArray) (l : Nat) : nodeB ⟨14, op, pl, nn, nm, ar, ex⟩ l = (justB ⟨14, op, pl, nn, nm, ar, ex⟩ ⟨0, 0, 0, 0, ⟨#[]⟩, ⟨#[]⟩, ⟨#[]⟩⟩ l 3) := by
  have hk : kidsN 14 = 3 := by decide
  have h1 : nameF 14 = false := by decide
  have h2 : argF 14 = false := by decide
  have h3 : exnF 14 = false := by decide
  unfold nodeB justB justP opOk nOk
  simp only [hk, h1, h2, h3, fitsB_none]
  rw [Bool.eq_iff_iff]
  simp only [Bool.and_eq_true, decide_eq_true_eq]
  generalize nameB nm = x1
  generalize nameB ar = x2
  generalize exnB ex = x3
  grind
theorem node_is15 (op pl nn : Int) (nm ar ex : ByteArray) (l : Nat) : nodeB ⟨15, op, pl, nn, nm, ar, ex⟩ l = (justB ⟨15, op, pl, nn, nm, ar, ex⟩ ⟨0, 0, 0, 0, ⟨#[]⟩, ⟨#[]⟩, ex⟩ l 1 && exnB ex) := by
  have hk : kidsN 15 = 1 := by decide
  have h1 : nameF 15 = false := by decide
  have h2 : argF 15 = false := by decide
  have h3 : exnF 15 = true := by decide
  unfold nodeB justB justP opOk nOk
  simp only [hk, h1, h2, h3, fitsB_none, fitsB_there]
  rw [Bool.eq_iff_iff]
  simp only [Bool.and_eq_true, decide_eq_true_eq]
  generalize nameB nm = x1
  generalize nameB ar = x2
  generalize exnB ex = x3
  grind
theorem node_is16 (op pl nn : Int) (nm ar ex : ByteArray) (l : Nat) : nodeB ⟨16, op, pl, nn, nm, ar, ex⟩ l = (justB ⟨16, op, pl, nn, nm, ar, ex⟩ ⟨0, 0, 0, 0, ⟨#[]⟩, ar, ex⟩ l 2 && (exnB ex && nameB ar)) := by
  have hk : kidsN 16 = 2 := by decide
  have h1 : nameF 16 = false := by decide
  have h2 : argF 16 = true := by decide
  have h3 : exnF 16 = true := by decide
  unfold nodeB justB justP opOk nOk
  simp only [hk, h1, h2, h3, fitsB_none, fitsB_there]
  rw [Bool.eq_iff_iff]
  simp only [Bool.and_eq_true, decide_eq_true_eq]
  generalize nameB nm = x1
  generalize nameB ar = x2
  generalize exnB ex = x3
  grind
theorem node_none {k : Int} (hk : k < 1 ∨ 16 < k) (op pl nn : Int) (nm ar ex : ByteArray) (l : Nat) : nodeB ⟨k, op, pl, nn, nm, ar, ex⟩ l = false :=
  nodeB_no (fun h => by have h1 := kidsN_none hk; have h2 := h.1; simp only at h2; omega)
theorem strs_two (w : World) (t : Nat) (s s' : ByteArray) : Words.StrsAt (w.alloc (.cells #[.string s, .string s'] t)) (some ⟨w.heap.size, 0, none⟩) [s, s'] := by
  refine .inr ⟨w.heap.size, 0, rfl, fun i hi => ?_⟩
  have : i = 0 ∨ i = 1 := by simp at hi; omega
  rcases this with rfl | rfl <;> simp [go_sem, Words.sel]
/-- Of two texts. -/
theorem name_two (s s' : ByteArray) (t : Nat) (w : World) (hs : s.size ≤ maxLen) (hs' : s'.size ≤ maxLen) (hl : Words.KwLaid w) :
    Calls Tryd.prog 33 #[.slice (some ⟨w.heap.size, 0, none⟩) 2 2] (w.alloc (.cells #[.string s, .string s'] t)) fun e w' => e = .returned (.bool (nameB s && nameB s')) ∧ Below w.heap.size w w' := by
  have hb0 : Below w.heap.size w (w.alloc (.cells #[.string s, .string s'] t)) := (Below.refl _ _).alloc (Nat.le_refl _) _
  refine (Words.name_walk _ 2 2 [s, s'] _ rfl (by unfold maxLen; omega) (strs_two w t s s') (fun x hx => by simp at hx; rcases hx with rfl | rfl <;> assumption) (hl.below hb0)).mono ?_
  rintro e w' ⟨rfl, hb⟩
  exact ⟨ret_bool (by simp), hb0.trans (hb.mono hb0.size)⟩
end Term
end Go.Proofs.YtpedmaomogigmaaDoor
