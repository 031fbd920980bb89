/- Plain facts on lines and columns. -/
import Derived.Test.YtggabjmfdnfckaaGreatDoorCharsMath
import Derived.Lib.BytesEntry
namespace Go.Proofs.YtggabjmfdnfckaaGreatDoor
namespace Chars

/-- Element i of a list, as a name of its own. -/
def el (xs : List Int) (i : Nat) : Int := xs.getD i 0
def lineN (xs : List Int) : Nat := 1 + xs.count 10
def colN (xs : List Int) : Nat := xs.foldl (fun c x => if x = 10 then 1 else c + 1) 1

theorem take_snoc (xs : List Int) (k : Nat) (h : k < xs.length) : xs.take (k + 1) = xs.take k ++ [el xs k] := by
  rw [List.take_succ_eq_append_getElem h]
  unfold el
  rw [List.getD_eq_getElem?_getD, List.getElem?_eq_getElem h]
  rfl
theorem line_snoc (xs : List Int) (k : Nat) (h : k < xs.length) : lineN (xs.take (k + 1)) = lineN (xs.take k) + if el xs k = 10 then 1 else 0 := by
  rw [take_snoc xs k h]
  unfold lineN
  rw [List.count_append, List.count_singleton]
  by_cases hx : el xs k = 10
  · simp [hx]; omega
  · simp [hx]
theorem col_snoc (xs : List Int) (k : Nat) (h : k < xs.length) : colN (xs.take (k + 1)) = if el xs k = 10 then 1 else colN (xs.take k) + 1 := by
  rw [take_snoc xs k h]
  unfold colN
  rw [List.foldl_append]
  rfl
theorem line_le (xs : List Int) : lineN xs ≤ xs.length + 1 ∧ 1 ≤ lineN xs := by
  unfold lineN
  have := List.count_le_length (a := (10 : Int)) (l := xs)
  omega
theorem col_le_aux : ∀ (xs : List Int) (c : Nat), 1 ≤ c → xs.foldl (fun c x => if x = 10 then 1 else c + 1) c ≤ xs.length + c ∧ 1 ≤ xs.foldl (fun c x => if x = 10 then 1 else c + 1) c
  | [], c, h => by simp; exact h
  | x :: xs, c, h => by
    rw [List.foldl_cons, List.length_cons]
    by_cases hx : x = 10
    · rw [if_pos hx]
      have := col_le_aux xs 1 (by omega)
      omega
    · rw [if_neg hx]
      have := col_le_aux xs (c + 1) (by omega)
      omega
theorem col_le (xs : List Int) : colN xs ≤ xs.length + 1 ∧ 1 ≤ colN xs := col_le_aux xs 1 (by omega)

/-- The column from the last line feed on: that stands at k, and none behind it. -/
theorem col_tail (xs : List Int) (k : Nat) (hk : k < xs.length) (h : el xs k = 10) : ∀ m, k + 1 + m ≤ xs.length → (∀ j, k < j → j < k + 1 + m → el xs j ≠ 10) → colN (xs.take (k + 1 + m)) = m + 1
  | 0, _, _ => by rw [Nat.add_zero, col_snoc xs k hk, if_pos h]
  | m + 1, hm, ha => by
    rw [show k + 1 + (m + 1) = (k + 1 + m) + 1 from by omega, col_snoc xs (k + 1 + m) (by omega), if_neg (ha _ (by omega) (by omega)), col_tail xs k hk h m (by omega) (fun j h1 h2 => ha j h1 (by omega))]
theorem col_none (xs : List Int) : ∀ m, m ≤ xs.length → (∀ j, j < m → el xs j ≠ 10) → colN (xs.take m) = m + 1
  | 0, _, _ => rfl
  | m + 1, hm, ha => by
    rw [col_snoc xs m (by omega), if_neg (ha m (by omega)), col_none xs m (by omega) (fun j hj => ha j (by omega))]

/-- Where a place counts: not below 0, and not above the length. -/
def cl (xs : List Int) (a : Int) : Nat := (min (max a 0) (xs.length : Int)).toNat
theorem cl_le (xs : List Int) (a : Int) : cl xs a ≤ xs.length := by unfold cl; omega
theorem cl_eq (xs : List Int) (n : Nat) (hx : xs.length = n) (a : Int) : min (max a 0) (n : Int) = (cl xs a : Nat) := by unfold cl; omega
def lineI (xs : List Int) (a : Int) : Int := (lineN (xs.take (cl xs a)) : Nat)
def colI (xs : List Int) (a : Int) : Int := (colN (xs.take (cl xs a)) : Nat)

theorem count_bytes (xs : List Int) (h : ∀ x ∈ xs, 0 ≤ x ∧ x ≤ 255) : (Lib.countByte (Lib.bytesOf xs) (10 : Int).toNat.toUInt8 : Nat) = xs.count 10 := by
  unfold Lib.countByte Lib.bytesOf
  induction xs with
  | nil => rfl
  | cons x xs ih =>
    have hx := h x (by simp)
    rw [List.map_cons, List.count_cons, List.count_cons, ih fun y hy => h y (by simp [hy])]
    have : (UInt8.ofNat x.toNat == (10 : Int).toNat.toUInt8) = (x == 10) := by
      rw [Bool.eq_iff_iff]
      simp only [beq_iff_eq]
      have := byte_eq x hx.1 hx.2 10 (by omega)
      exact this
    rw [show (x.toNat.toUInt8 == (10 : Int).toNat.toUInt8) = (x == 10) from this]
end Chars
end Go.Proofs.YtggabjmfdnfckaaGreatDoor
