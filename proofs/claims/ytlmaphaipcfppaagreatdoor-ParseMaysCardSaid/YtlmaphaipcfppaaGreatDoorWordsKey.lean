/- The walks of the program's and the document's keywords: each is 'kwN'. -/
import Derived.Test.YtlmaphaipcfppaaGreatDoorRows
import Derived.Test.YtlmaphaipcfppaaGreatDoorWordsMath
import Derived.LoopTactic
import Derived.Outline
namespace Go.Proofs.YtlmaphaipcfppaaGreatDoor
open Go.RowKit
namespace Words
open Chars (ret_i64 ret_bool)

/-- The table of keywords lies as the program's text lays it. -/
def KwLaid (w : World) : Prop := ∀ k, k < 14 → w.cell? ⟨0, k, none⟩ = some (.string (kwT k))
theorem KwLaid.below {w W : World} (h : KwLaid w) (hb : Below w.heap.size w W) : KwLaid W := fun k hk => by
  have hl : 0 < w.heap.size := World.block_lt_of_cell? w _ (h k hk)
  exact (hb.cell (p := ⟨0, k, none⟩) hl).trans (h k hk)

theorem kw_index (k : Nat) (hk : k < 14) (W : World) :
    (Instr.index 125 (.agg #[.string (kwT 0), .string (kwT 1), .string (kwT 2), .string (kwT 3), .string (kwT 4), .string (kwT 5), .string (kwT 6), .string (kwT 7), .string (kwT 8), .string (kwT 9), .string (kwT 10), .string (kwT 11), .string (kwT 12), .string (kwT 13)]) (.int .i64 (k : Int))).run Tryz.prog W = .ok (.string (kwT k)) W := by
  have : k = 0 ∨ k = 1 ∨ k = 2 ∨ k = 3 ∨ k = 4 ∨ k = 5 ∨ k = 6 ∨ k = 7 ∨ k = 8 ∨ k = 9 ∨ k = 10 ∨ k = 11 ∨ k = 12 ∨ k = 13 := by omega
  rcases this with rfl | rfl | rfl | rfl | rfl | rfl | rfl | rfl | rfl | rfl | rfl | rfl | rfl | rfl <;> (show _ = _; kernel_rfl)

set_option maxHeartbeats 400000 in
theorem keyword_walk (s : ByteArray) (w : World) (hl : KwLaid w) :
    Calls Tryz.prog 94 #[.string s] w fun e w' => e = .returned (.int .i64 (kwN s.data.toList : Nat)) ∧ w = w' := by
  have c0 := hl 0 (by omega); have c1 := hl 1 (by omega); have c2 := hl 2 (by omega); have c3 := hl 3 (by omega); have c4 := hl 4 (by omega); have c5 := hl 5 (by omega); have c6 := hl 6 (by omega)
  have c7 := hl 7 (by omega); have c8 := hl 8 (by omega); have c9 := hl 9 (by omega); have c10 := hl 10 (by omega); have c11 := hl 11 (by omega); have c12 := hl 12 (by omega); have c13 := hl 13 (by omega)
  clear hl
  go_enter Tryz.func94, Tryz.ntmps94
  go_wp2
  clear c0 c1 c2 c3 c4 c5 c6 c7 c8 c9 c10 c11 c12 c13
  go_loop [3, 4, 6] (fun _ _ i => ∃ k : Nat, k ≤ 14 ∧ i = .int .i64 k ∧ ∀ j, j < k → kwT j ≠ s) (fun _ _ i => 14 - (intOf i).toNat)
  case atStart => exact ⟨0, by omega, rfl, fun j hj => by omega⟩
  case round =>
    obtain ⟨k, hk, rfl, hn⟩ := hrel
    have HN := Lib.hid hn
    clear hn
    by_cases hlt : k < 14
    · have hx := kw_index k hlt
      by_cases he : kwT k = s
      · have he' := str_yes he
        have HE := Lib.hid he; clear he
        go_wp2
        go_ret
        refine ⟨ret_i64 ?_, rfl⟩
        rw [kwN_hit s k hlt HE.out HN.out]
        omega
      · have he' := str_no he
        have HE := Lib.hid he; clear he
        go_wp2
        go_round
        case rel =>
          refine ⟨k + 1, by omega, by go_num, fun j hj => ?_⟩
          by_cases hjk : j = k
          · rw [hjk]; exact HE.out
          · exact HN.out j (by omega)
        case measure => simp [intOf]; omega
    · go_wp2
      go_ret
      refine ⟨ret_i64 ?_, rfl⟩
      rw [kwN_miss s fun j hj => HN.out j (by omega)]
      rfl

theorem refKeywords_walk (w : World) :
    Calls Tryz.prog 74 #[] w fun e w' => e = .returned (.slice (some ⟨w.heap.size, 0, none⟩) 14 14) ∧ Below w.heap.size w w' ∧ ∀ k, k < 14 → w'.cell? ⟨w.heap.size, k, none⟩ = some (.string (kwT k)) := by
  go_enter Tryz.func74, Tryz.ntmps74
  go_wp2
  go_ret
  refine ⟨rfl, (Below.refl _ _).alloc (Nat.le_refl _) _, fun k hk => ?_⟩
  have : k = 0 ∨ k = 1 ∨ k = 2 ∨ k = 3 ∨ k = 4 ∨ k = 5 ∨ k = 6 ∨ k = 7 ∨ k = 8 ∨ k = 9 ∨ k = 10 ∨ k = 11 ∨ k = 12 ∨ k = 13 := by omega
  rcases this with rfl | rfl | rfl | rfl | rfl | rfl | rfl | rfl | rfl | rfl | rfl | rfl | rfl | rfl <;> simp [go_sem, kwT, kwTexts]

set_option maxHeartbeats 400000 in
theorem refKeyword_walk (s : ByteArray) (w : World) :
    Calls Tryz.prog 53 #[.string s] w fun e w' => e = .returned (.int .i64 (kwN s.data.toList : Nat)) ∧ Below w.heap.size w w' := by
  go_enter Tryz.func53, Tryz.ntmps53
  go_wp2_with (fail)
  refine (refKeywords_walk _).mono ?_
  rintro e w1 ⟨rfl, hb, hc⟩
  have HB := Lib.hid hb; have HC := Lib.hid hc
  clear hb hc
  go_wp2
  go_loop [4, 8] (fun _ i => ∃ k : Nat, k ≤ 14 ∧ i = .int .i64 k ∧ ∀ j, j < k → kwT j ≠ s) (fun _ i => 14 - (intOf i).toNat)
  case atStart => exact ⟨0, by omega, rfl, fun j hj => by omega⟩
  case round =>
    obtain ⟨k, hk, rfl, hn⟩ := hrel
    have HN := Lib.hid hn
    clear hn
    by_cases hlt : k < 14
    · have hx := HC.out k hlt
      by_cases he : kwT k = s
      · have he' := str_yes he
        have HE := Lib.hid he; clear he
        go_wp2
        go_ret
        refine ⟨ret_i64 ?_, HB.out⟩
        rw [kwN_hit s k hlt HE.out HN.out]
        omega
      · have he' := str_no he
        have HE := Lib.hid he; clear he
        go_wp2
        go_round
        case rel =>
          refine ⟨k + 1, by omega, by go_num, fun j hj => ?_⟩
          by_cases hjk : j = k
          · rw [hjk]; exact HE.out
          · exact HN.out j (by omega)
        case measure => simp [intOf]; omega
    · go_wp2
      go_ret
      refine ⟨ret_i64 ?_, HB.out⟩
      rw [kwN_miss s fun j hj => HN.out j (by omega)]
      rfl
end Words
end Go.Proofs.YtlmaphaipcfppaaGreatDoor
