/- Are all atoms: the program's answer. -/
import Derived.Test.YtggabjmfdnfckaaDoorEfDoc
namespace Go.Proofs.YtggabjmfdnfckaaDoor
open Go.RowKit
set_option linter.unusedVariables false
set_option linter.unusedSimpArgs false
namespace Effect

set_option maxRecDepth 100000 in
set_option maxHeartbeats 6400000 in
theorem indexOdd_walk {n c : Nat} {a : Option Addr} {l : List At} {w : World} (h : Rd w n a l) (hn : n ≤ 100000) : Calls Tryd.prog 58 #[.slice a n c, .func (.func 30) #[] #[]] w fun e w' => ∃ i : Int, e = .returned (.int .i64 i) ∧ decide (0 ≤ i) = !l.all atomB ∧ -1 ≤ i ∧ i ≤ 100000 ∧ Below w.heap.size w w' := by
  have H := Lib.hid h
  clear h
  go_enter Tryd.func58, Tryd.ntmps58
  go_wp2_with (fail)
  go_loopw [5, 8] (fun _ i wr => ∃ j : Nat, j ≤ n ∧ i = .int .i64 (j : Int) ∧ Hid (Below w.heap.size w wr) ∧ Hid ((l.take j).all atomB = true)) (fun _ i _ => n - (intOf i).toNat)
  case atStart => exact ⟨0, Nat.zero_le _, rfl, Lib.hid (Below.refl _ _), Lib.hid (by simp)⟩
  case round =>
    obtain ⟨j, hj, rfl, HS, HA⟩ := hrel
    by_cases hlt : j < n
    · have hjl : j < l.length := by rw [H.out.len]; exact hlt
      obtain ⟨b1, o, rfl, a0, a1, a2⟩ := (H.out.at_.below HS.out).get j hjl
      have hx := H.out.ok _ (aget_mem hjl)
      have htk := at_take l j hjl
      have hmem := aget_mem hjl
      generalize aget l j = x at *
      have HTK := Lib.hid htk; have HMEM := Lib.hid hmem
      have HAT := Lib.hid (odd_walk x wr hx)
      clear htk hmem hjl hx
      go_wp2_with (fail)
      refine HAT.out.mono ?_
      rintro e w1 ⟨rfl, hb1⟩
      have HB1 := Lib.hid (below_then HS.out hb1 HS.out.size)
      clear hb1
      cases hat : atomB x
      · have hg : decide ((0 : Int) ≤ (j : Int)) = !l.all atomB := by
          rw [decide_eq_true (by omega)]
          have : l.all atomB = false := by
            rw [Bool.eq_false_iff]
            intro hall
            have := List.all_eq_true.1 hall x HMEM.out
            rw [hat] at this; cases this
          rw [this]; rfl
        have HG := Lib.hid hg
        clear hat hg
        simp only [Bool.not_false, Bool.not_true]
        go_wp2_with (fail)
        go_ret
        exact ⟨j, rfl, HG.out, by omega, by omega, HB1.out⟩
      · have HAT2 := Lib.hid hat
        clear hat
        simp only [Bool.not_false, Bool.not_true]
        go_wp2_with (fail)
        go_roundw
        case rel => exact ⟨j + 1, by omega, by go_num, HB1, Lib.hid (by rw [HTK.out, List.all_append, HA.out]; simp [HAT2.out])⟩
        case measure => simp [intOf]; omega
    · obtain rfl : j = n := by omega
      have hall := HA.out
      rw [List.take_of_length_le (by rw [H.out.len]; exact Nat.le_refl _)] at hall
      have HALL := Lib.hid hall
      clear hall
      go_wp2_with (fail)
      go_ret
      exact ⟨-1, rfl, by rw [HALL.out]; rfl, by omega, by omega, HS.out⟩
set_option maxHeartbeats 6400000 in
theorem containsOdd_walk {n c : Nat} {a : Option Addr} {l : List At} {w : World} (h : Rd w n a l) (hn : n ≤ 100000) : Calls Tryd.prog 34 #[.slice a n c, .func (.func 30) #[] #[]] w fun e w' => e = .returned (.bool (!l.all atomB)) ∧ Below w.heap.size w w' := by
  have H := Lib.hid (indexOdd_walk (c := c) h hn)
  clear h
  go_enter Tryd.func34, Tryd.ntmps34
  go_wp2_with (fail)
  refine H.out.mono ?_
  rintro e w1 ⟨i, rfl, hi, hi1, hi2, hb1⟩
  have HI := Lib.hid hi; have HB := Lib.hid hb1
  clear hi hb1
  go_wp2_with (fail)
  go_ret
  exact ⟨ret_bool (by rw [← HI.out]), HB.out⟩
set_option maxHeartbeats 6400000 in
theorem atom_walk {n c : Nat} {a : Option Addr} {l : List At} {w : World} (h : Rd w n a l) (hn : n ≤ 100000) : Calls Tryd.prog 12 #[.slice a n c] w fun e w' => e = .returned (.bool (l.all atomB)) ∧ Below w.heap.size w w' := by
  have H := Lib.hid (containsOdd_walk (c := c) h hn)
  clear h
  go_enter Tryd.func12, Tryd.ntmps12
  go_wp2_with (fail)
  refine H.out.mono ?_
  rintro e w1 ⟨rfl, hb1⟩
  have HB := Lib.hid hb1
  clear hb1
  go_wp2_with (fail)
  go_ret
  exact ⟨ret_bool (by first | rfl | simp), HB.out⟩
end Effect
end Go.Proofs.YtggabjmfdnfckaaDoor
