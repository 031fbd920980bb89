/- The walk of the document's class of a byte. -/
import Derived.Test.YtggabjmfdnfckaaGreatDoorCharsClass
import Derived.LoopTactic
import Derived.Outline
import Derived.Below
import Derived.WalkSmall
namespace Go.Proofs.YtggabjmfdnfckaaGreatDoor
open Go.RowKit
namespace Chars

def signs : List Int := [40, 41, 44, 33, 58, 61, 62, 43, 45, 42, 60, 59]
def sgn (k : Nat) : Int := signs.getD k 0
def signCells : Array Value := #[.int .u8 40, .int .u8 41, .int .u8 44, .int .u8 33, .int .u8 58, .int .u8 61, .int .u8 62, .int .u8 43, .int .u8 45, .int .u8 42, .int .u8 60, .int .u8 59]
theorem sign_cell (w : World) (t : Nat) (k : Nat) (hk : k < 12) : (w.alloc (.cells signCells t)).cell? ⟨w.heap.size, k, none⟩ = some (.int .u8 (sgn k)) := by
  unfold signCells sgn signs
  have : k = 0 ∨ k = 1 ∨ k = 2 ∨ k = 3 ∨ k = 4 ∨ k = 5 ∨ k = 6 ∨ k = 7 ∨ k = 8 ∨ k = 9 ∨ k = 10 ∨ k = 11 := by omega
  rcases this with rfl | rfl | rfl | rfl | rfl | rfl | rfl | rfl | rfl | rfl | rfl | rfl <;> simp [go_sem]
theorem sgn_mem (k : Nat) (hk : k < 12) : sgn k ∈ signs := by
  have : k = 0 ∨ k = 1 ∨ k = 2 ∨ k = 3 ∨ k = 4 ∨ k = 5 ∨ k = 6 ∨ k = 7 ∨ k = 8 ∨ k = 9 ∨ k = 10 ∨ k = 11 := by omega
  rcases this with rfl | rfl | rfl | rfl | rfl | rfl | rfl | rfl | rfl | rfl | rfl | rfl <;> decide
theorem mem_sgn (c : Int) (hc : c ∈ signs) : ∃ k, k < 12 ∧ sgn k = c := by
  unfold signs at hc
  simp only [List.mem_cons, List.not_mem_nil, or_false] at hc
  rcases hc with rfl | rfl | rfl | rfl | rfl | rfl | rfl | rfl | rfl | rfl | rfl | rfl
  · exact ⟨0, by omega, by decide⟩
  · exact ⟨1, by omega, by decide⟩
  · exact ⟨2, by omega, by decide⟩
  · exact ⟨3, by omega, by decide⟩
  · exact ⟨4, by omega, by decide⟩
  · exact ⟨5, by omega, by decide⟩
  · exact ⟨6, by omega, by decide⟩
  · exact ⟨7, by omega, by decide⟩
  · exact ⟨8, by omega, by decide⟩
  · exact ⟨9, by omega, by decide⟩
  · exact ⟨10, by omega, by decide⟩
  · exact ⟨11, by omega, by decide⟩
theorem ret_u8 {a b : Int} (h : a = b) : Ending.returned (.int .u8 a) = .returned (.int .u8 b) := by rw [h]

/-- Where the byte is no blank, no digit and no letter: the loop over the signs. -/
theorem refClass_sign (c : Int) (w : World) (b1 : (c == 32) = false) (b2 : (c == 9) = false) (b3 : (c == 10) = false)
    (hr : c < 48 ∨ (58 ≤ c ∧ c < 65) ∨ (91 ≤ c ∧ c < 97) ∨ 123 ≤ c) (hc : cls c = if c ∈ signs then 5 else 0) :
    Calls Tryz.prog 98 #[.int .u8 c] w fun e w' => e = .returned (.int .u8 (cls c)) ∧ Below w.heap.size w w' := by
  have hcell : ∀ t k, k < 12 → (w.alloc (.cells signCells t)).cell? ⟨w.heap.size, k, none⟩ = some (.int .u8 (sgn k)) := fun t k => sign_cell w t k
  unfold signCells at hcell
  have HC := Lib.hid hc; clear hc
  have HK := Lib.hid hcell; clear hcell
  rcases hr with r1 | ⟨r1, r2⟩ | ⟨r1, r2⟩ | r1
  all_goals
    go_enter Tryz.func98, Tryz.ntmps98
    go_wp2
    try clear r1
    try clear r2
    go_loop [4, 36] (fun _ i => ∃ k : Nat, k ≤ 12 ∧ i = .int .i64 k ∧ ∀ j, j < k → sgn j ≠ c) (fun _ i => 12 - (intOf i).toNat)
    case atStart => exact ⟨0, by omega, rfl, fun j hj => by omega⟩
    case round =>
      obtain ⟨k, hk, rfl, hn⟩ := hrel
      have HN := Lib.hid hn
      clear hn
      by_cases hlt : k < 12
      · have hk1 := HK.out 5 k hlt
        by_cases he : sgn k = c
        · have he' : (sgn k == c) = true := by simpa using he
          have HE := Lib.hid he; clear he
          go_wp2
          go_ret
          refine ⟨ret_u8 ?_, (Below.refl _ _).alloc (Nat.le_refl _) _⟩
          rw [HC.out, if_pos (by rw [← HE.out]; exact sgn_mem k hlt)]
        · have he' : (sgn k == c) = false := by simpa using he
          have HE := Lib.hid he; clear he
          go_wp2
          go_round
          case rel =>
            refine ⟨k + 1, by omega, by go_num, fun j hj => ?_⟩
            by_cases hjk : j = k
            · rw [hjk]; exact HE.out
            · exact HN.out j (by omega)
          case measure => simp [intOf]; omega
      · go_wp2
        go_ret
        refine ⟨ret_u8 ?_, (Below.refl _ _).alloc (Nat.le_refl _) _⟩
        rw [HC.out, if_neg (fun hm => by obtain ⟨j, hj, hs⟩ := mem_sgn c hm; exact HN.out j (by omega) hs)]

theorem refClass_walk (c : Int) (h0 : 0 ≤ c) (h1 : c ≤ 255) (w : World) :
    Calls Tryz.prog 98 #[.int .u8 c] w fun e w' => e = .returned (.int .u8 (cls c)) ∧ Below w.heap.size w w' := by
  by_cases b1 : c = 32
  · subst b1
    go_enter Tryz.func98, Tryz.ntmps98
    go_wp2
    go_ret
    exact ⟨rfl, Below.refl _ _⟩
  by_cases b2 : c = 9
  · subst b2
    go_enter Tryz.func98, Tryz.ntmps98
    go_wp2
    go_ret
    exact ⟨rfl, Below.refl _ _⟩
  by_cases b3 : c = 10
  · subst b3
    go_enter Tryz.func98, Tryz.ntmps98
    go_wp2
    go_ret
    exact ⟨rfl, Below.refl _ _⟩
  have b1' : (c == 32) = false := by simpa using b1
  have b2' : (c == 9) = false := by simpa using b2
  have b3' : (c == 10) = false := by simpa using b3
  have nb : ¬ (c = 32 ∨ c = 9 ∨ c = 10) := by omega
  by_cases d : 48 ≤ c ∧ c ≤ 57
  · have hc : cls c = 2 := by unfold cls; rw [if_neg nb, if_pos d]
    have HC := Lib.hid hc; clear hc
    obtain ⟨d1, d2⟩ := d
    clear nb b1 b2 b3
    go_enter Tryz.func98, Tryz.ntmps98
    go_wp2
    go_ret
    exact ⟨ret_u8 HC.out.symm, Below.refl _ _⟩
  by_cases s : 97 ≤ c ∧ c ≤ 122
  · have hc : cls c = 3 := by unfold cls; rw [if_neg nb, if_neg d, if_pos s]
    have HC := Lib.hid hc; clear hc
    obtain ⟨d1, d2⟩ := s
    clear nb b1 b2 b3 d
    go_enter Tryz.func98, Tryz.ntmps98
    go_wp2
    go_ret
    exact ⟨ret_u8 HC.out.symm, Below.refl _ _⟩
  by_cases g : 65 ≤ c ∧ c ≤ 90
  · have hc : cls c = 4 := by unfold cls; rw [if_neg nb, if_neg d, if_neg s, if_pos g]
    have HC := Lib.hid hc; clear hc
    obtain ⟨d1, d2⟩ := g
    clear nb b1 b2 b3 d s
    go_enter Tryz.func98, Tryz.ntmps98
    go_wp2
    go_ret
    exact ⟨ret_u8 HC.out.symm, Below.refl _ _⟩
  exact refClass_sign c w b1' b2' b3' (by omega) (by unfold cls; rw [if_neg nb, if_neg d, if_neg s, if_neg g]; rfl)
end Chars
end Go.Proofs.YtggabjmfdnfckaaGreatDoor
