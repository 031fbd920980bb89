/- The walks of slices.Index and slices.Contains over bytes: none turns the world. -/
import Derived.Test.YtggabjmfdnfckaaGreatDoorCharsRef
import Derived.Test.YtggabjmfdnfckaaGreatDoorCharsPlaceMath
import Derived.IntWalk
namespace Go.Proofs.YtggabjmfdnfckaaGreatDoor
open Go.RowKit
namespace Chars

/-- What a slice's cells hold: nothing is asked of an empty one. -/
def BytesAt (w : World) (p : Option Addr) (xs : List Int) : Prop :=
  xs = [] ∨ ∃ b o, p = some ⟨b, o, none⟩ ∧ ∀ i, i < xs.length → w.cell? ⟨b, o + i, none⟩ = some (.int .u8 (xs.getD i 0))

theorem BytesAt.get {w : World} {p : Option Addr} {xs : List Int} (h : BytesAt w p xs) (k : Nat) (hk : k < xs.length) :
    ∃ b o, p = some ⟨b, o, none⟩ ∧ ∀ i, i < xs.length → w.cell? ⟨b, o + i, none⟩ = some (.int .u8 (el xs i)) := by
  rcases h with rfl | h
  · simp at hk
  · exact h

theorem el_mem {xs : List Int} {i : Nat} (h : i < xs.length) : el xs i ∈ xs := by
  unfold el
  rw [List.getD_eq_getElem?_getD, List.getElem?_eq_getElem h]
  exact List.getElem_mem h
theorem mem_el {xs : List Int} {v : Int} (h : v ∈ xs) : ∃ i, i < xs.length ∧ el xs i = v := by
  obtain ⟨i, hi, e⟩ := List.getElem_of_mem h
  refine ⟨i, hi, ?_⟩
  unfold el
  rw [List.getD_eq_getElem?_getD, List.getElem?_eq_getElem hi]
  exact e

/-- Is v one of ys? -/
def isin (ys : List Int) (v : Int) : Bool := decide (v ∈ ys)

theorem ret_i64 {a b : Int} (h : a = b) : Ending.returned (.int .i64 a) = .returned (.int .i64 b) := by rw [h]
theorem ret_bool {a b : Bool} (h : a = b) : Ending.returned (.bool a) = .returned (.bool b) := by rw [h]

/-- An index of v in ys, or -1. -/
def IsIdx (ys : List Int) (v : Int) (e : Ending) : Prop := ∃ r : Int, e = .returned (.int .i64 r) ∧ (isin ys v = true → 0 ≤ r) ∧ (isin ys v = false → r < 0)

theorem index_walk (p : Option Addr) (n d : Nat) (ys : List Int) (v : Int) (w : World) (hn : ys.length = n) (hm : n ≤ maxLen) (hb : BytesAt w p ys) :
    Calls Tryz.prog 124 #[.slice p n d, .int .u8 v] w fun e w' => IsIdx ys v e ∧ w = w' := by
  unfold maxLen at hm
  have HB := Lib.hid hb; clear hb
  have HL := Lib.hid hn; clear hn
  go_enter Tryz.func124, Tryz.ntmps124
  go_wp2
  go_loop [5, 8] (fun _ i => ∃ k : Nat, k ≤ n ∧ i = .int .i64 k ∧ ∀ j, j < k → el ys j ≠ v) (fun _ i => n - (intOf i).toNat)
  case atStart => exact ⟨0, by omega, rfl, fun j hj => by omega⟩
  case round =>
    obtain ⟨k, hk, rfl, hn⟩ := hrel
    have HN := Lib.hid hn
    clear hn
    by_cases hlt : k < n
    · obtain ⟨b, o, rfl, hc⟩ := HB.out.get k (by rw [HL.out]; exact hlt)
      have hck := hc k (by rw [HL.out]; exact hlt)
      clear hc
      by_cases he : el ys k = v
      · have he' : (v == el ys k) = true := by rw [he]; simp
        have HE := Lib.hid he; clear he
        go_wp2
        go_ret
        refine ⟨⟨k, rfl, fun _ => by omega, fun h => ?_⟩, rfl⟩
        exfalso
        unfold isin at h
        have : v ∈ ys := by rw [← HE.out]; exact el_mem (by rw [HL.out]; exact hlt)
        simp [this] at h
      · have he' : (v == el ys k) = false := by simpa using fun h => he h.symm
        have HE := Lib.hid he; clear he
        go_wp2
        go_round
        case rel =>
          refine ⟨k + 1, by omega, by go_num, fun j hj => ?_⟩
          by_cases hjk : j = k
          · rw [hjk]; exact HE.out
          · exact HN.out j (by omega)
        case measure => simp [intOf]; omega
    · go_wp2
      go_ret
      refine ⟨⟨-1, rfl, fun h => ?_, fun h => by omega⟩, rfl⟩
      exfalso
      unfold isin at h
      obtain ⟨j, hj, hs⟩ := mem_el (of_decide_eq_true h)
      have hl := HL.out
      exact HN.out j (by omega) hs

theorem contains_walk (p : Option Addr) (n d : Nat) (ys : List Int) (v : Int) (w : World) (hn : ys.length = n) (hm : n ≤ maxLen) (hb : BytesAt w p ys) :
    Calls Tryz.prog 118 #[.slice p n d, .int .u8 v] w fun e w' => e = .returned (.bool (isin ys v)) ∧ w = w' := by
  have HB := Lib.hid hb; clear hb
  have HL := Lib.hid hn; clear hn
  go_enter Tryz.func118, Tryz.ntmps118
  go_wp2_with (fail)
  refine (index_walk p n d ys v w HL.out hm HB.out).mono ?_
  rintro e w' ⟨⟨r, rfl, h1, h2⟩, rfl⟩
  have H1 := Lib.hid h1; have H2 := Lib.hid h2; clear h1 h2
  go_wp2
  go_ret
  refine ⟨ret_bool ?_, rfl⟩
  have h1 := H1.out; have h2 := H2.out
  cases hi : isin ys v
  · have := h2 hi; simp; omega
  · have := h1 hi; simp; omega
end Chars
end Go.Proofs.YtggabjmfdnfckaaGreatDoor
