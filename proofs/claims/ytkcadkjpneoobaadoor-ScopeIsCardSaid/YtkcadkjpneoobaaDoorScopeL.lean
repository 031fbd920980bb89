/- The document's rows of texts: what is in them, and which are the same. -/
import Derived.Test.YtkcadkjpneoobaaDoorGScopeA
import Derived.BigQuiet
namespace Go.Proofs.YtkcadkjpneoobaaDoor
open Go.RowKit
set_option linter.unusedVariables false
set_option linter.unusedSimpArgs false
namespace Scope
open Term (ret_bool ret_i64)
open Words (str_no str_yes sel sel_mem StrsAt)

set_option maxHeartbeats 3200000 in
theorem refIn_walk (p : Option Addr) (n d : Nat) (ss : List ByteArray) (x : ByteArray) (w : World) (hn : ss.length = n) (hm : n ≤ maxLen) (hp : StrsAt w p ss) :
    Calls Tryd.prog 19 #[.slice p n d, .string x] w fun e w' => e = .returned (.bool (hasB ss x)) ∧ w = w' := by
  unfold maxLen at hm
  have HP := Lib.hid hp; clear hp
  have HL := Lib.hid hn; clear hn
  go_enter Tryd.func19, Tryd.ntmps19
  go_wp2
  go_loop [5, 8] (fun _ i => ∃ k : Nat, k ≤ n ∧ i = .int .i64 k ∧ Hid (∀ j, j < k → sel ss j ≠ x)) (fun _ i => n - (intOf i).toNat)
  case atStart => exact ⟨0, by omega, rfl, Lib.hid (fun j hj => by omega)⟩
  case round =>
    obtain ⟨k, hk, rfl, HA⟩ := hrel
    by_cases hlt : k < n
    · have hk' : k < ss.length := by rw [HL.out]; exact hlt
      obtain ⟨b, o, rfl, hcs⟩ := HP.out.get k hk'
      have hck := hcs k hk'
      have HK := Lib.hid hk'
      clear hcs hk'
      generalize hy : sel ss k = y at *
      have HY := Lib.hid hy
      clear hy
      by_cases hyx : y = x
      · have n1 : (y.toList == x.toList) = true := str_yes hyx
        have HYX := Lib.hid hyx
        clear hyx
        go_wp2
        go_ret
        have hin := in_true HK.out (HY.out.trans HYX.out)
        exact ⟨ret_bool (by rw [hin]), rfl⟩
      · have n1 : (y.toList == x.toList) = false := str_no hyx
        have HYX := Lib.hid hyx
        clear hyx
        go_wp2
        go_round
        case rel =>
          refine ⟨k + 1, by omega, by go_num, Lib.hid (fun j hj => ?_)⟩
          by_cases hjk : j = k
          · rw [hjk, HY.out]; exact HYX.out
          · exact HA.out j (by omega)
        case measure => simp [intOf]; omega
    · obtain rfl : k = n := by omega
      go_wp2
      go_ret
      have hin := in_false (ss := ss) (x := x) (fun j hj => HA.out j (by rw [← HL.out]; exact hj))
      exact ⟨ret_bool (by rw [hin]), rfl⟩
theorem ref_in {w : World} {B : Nat} {v : Value} {ns : List ByteArray} (h : Nm w B v ns) (x : ByteArray) :
    Calls Tryd.prog 19 #[v, .string x] w fun e w' => e = .returned (.bool (hasB ns x)) ∧ w = w' := by
  obtain ⟨p, d, rfl, hm⟩ := h.slice
  exact refIn_walk p ns.length d ns x w rfl hm h.strs.2
theorem sel_ext {xs ys : List ByteArray} (hl : xs.length = ys.length) (h : ∀ j, j < xs.length → sel xs j = sel ys j) : xs = ys := by
  apply List.ext_getElem hl
  intro i h1 h2
  have := h i h1
  unfold sel at this
  rw [List.getD_eq_getElem?_getD, List.getElem?_eq_getElem h1, List.getD_eq_getElem?_getD, List.getElem?_eq_getElem h2] at this
  exact this
set_option maxHeartbeats 6400000 in
theorem refSame_walk (p p' : Option Addr) (n n' d d' : Nat) (xs ys : List ByteArray) (w : World) (hn : xs.length = n) (hn' : ys.length = n') (hm : n ≤ maxLen) (hm' : n' ≤ maxLen) (hp : StrsAt w p xs) (hp' : StrsAt w p' ys) :
    Calls Tryd.prog 13 #[.slice p n d, .slice p' n' d'] w fun e w' => e = .returned (.bool (decide (xs = ys))) ∧ Below w.heap.size w w' := by
  unfold maxLen at hm hm'
  have HP := Lib.hid hp; have HP' := Lib.hid hp'; have HL := Lib.hid hn; have HL' := Lib.hid hn'
  clear hp hp' hn hn'
  by_cases hnn : n = n'
  · subst hnn
    go_enter Tryd.func13, Tryd.ntmps13
    go_wp2_with (fail)
    go_loopw [5, 13] (fun _ i wr => ∃ k : Nat, k ≤ n ∧ i = .int .i64 k ∧ Hid (∀ j, j < k → sel xs j = sel ys j) ∧ Hid (Below w.heap.size w wr)) (fun _ i _ => n - (intOf i).toNat)
    case atStart => exact ⟨0, by omega, rfl, Lib.hid (fun j hj => by omega), Lib.hid (Below.refl _ _)⟩
    case round =>
      obtain ⟨k, hk, rfl, HA, HB⟩ := hrel
      by_cases hlt : k < n
      · have hk1 : k < xs.length := by rw [HL.out]; exact hlt
        have hk2 : k < ys.length := by rw [HL'.out]; exact hlt
        obtain ⟨b, o, rfl, hcs⟩ := (HP.out.below HB.out).get k hk1
        have hck := hcs k hk1
        obtain ⟨b', o', rfl, hcs'⟩ := (HP'.out.below HB.out).get k hk2
        have hck' := hcs' k hk2
        clear hcs hcs'
        generalize hy : sel xs k = y at *
        generalize hz : sel ys k = z at *
        have HYZ := Lib.hid (And.intro hy hz); have HK1 := Lib.hid (And.intro hk1 hk2)
        clear hy hz hk1 hk2
        by_cases hyz : y = z
        · have n1 : (y.toList == z.toList) = true := str_yes hyz
          have n2 : (y.toList != z.toList) = false := by rw [bne, n1]; rfl
          have HYZ2 := Lib.hid hyz
          clear hyz
          go_wp2_with (fail)
          go_quiet (fail)
          go_wp2_with (fail)
          go_roundw
          case rel =>
            refine ⟨k + 1, by omega, by go_num, Lib.hid (fun j hj => ?_), Lib.hid (Chars.below_draws HB.out _)⟩
            by_cases hjk : j = k
            · rw [hjk, HYZ.out.1, HYZ.out.2]; exact HYZ2.out
            · exact HA.out j (by omega)
          case measure => simp [intOf]; omega
        · have n1 : (y.toList == z.toList) = false := str_no hyz
          have n2 : (y.toList != z.toList) = true := by rw [bne, n1]; rfl
          have HYZ2 := Lib.hid hyz
          clear hyz
          go_wp2_with (fail)
          go_quiet (fail)
          go_wp2_with (fail)
          go_ret
          refine ⟨ret_bool (decide_eq_false ?_).symm, Chars.below_draws HB.out _⟩
          intro e
          apply HYZ2.out
          rw [← HYZ.out.1, ← HYZ.out.2, e]
      · obtain rfl : k = n := by omega
        go_wp2_with (fail)
        go_ret
        exact ⟨ret_bool (decide_eq_true (sel_ext (HL.out.trans HL'.out.symm) (fun j hj => HA.out j (by rw [← HL.out]; exact hj)))).symm, HB.out⟩
  · have hne : xs ≠ ys := fun e => hnn (by rw [← HL.out, ← HL'.out, e])
    have n1 : ((n : Int) == (n' : Int)) = false := by rw [beq_eq_false_iff_ne]; omega
    have n2 : ((n : Int) != (n' : Int)) = true := by rw [bne, n1]; rfl
    have hni : ¬ (n : Int) = (n' : Int) := by omega
    have HNE := Lib.hid hne
    clear hne
    go_enter Tryd.func13, Tryd.ntmps13
    go_wp2_with (fail)
    go_ret
    exact ⟨ret_bool (decide_eq_false HNE.out).symm, Below.refl _ _⟩
theorem ref_same {w : World} {B B' : Nat} {v v' : Value} {ns ms : List ByteArray} (h : Nm w B v ns) (h' : Nm w B' v' ms) :
    Calls Tryd.prog 13 #[v, v'] w fun e w' => e = .returned (.bool (decide (ns = ms))) ∧ Below w.heap.size w w' := by
  obtain ⟨p, d, rfl, hm⟩ := h.slice
  obtain ⟨p', d', rfl, hm'⟩ := h'.slice
  exact refSame_walk p p' ns.length ms.length d d' ns ms w rfl rfl hm hm' h.strs.2 h'.strs.2
end Scope
end Go.Proofs.YtkcadkjpneoobaaDoor
