/- The walk of the document's Join. -/
import Derived.Test.YtklibniadcpjhaaDoorTokenJoin
import Derived.Test.YtklibniadcpjhaaDoorWordsRefNum
namespace Go.Proofs.YtklibniadcpjhaaDoor
open Go.RowKit
set_option linter.unusedVariables false
namespace Token
open Chars (ret_i64 ret_bool)

theorem take_step (ss : List ByteArray) (k : Nat) (s : ByteArray) (h : ss[k]? = some s) : ss.take (k + 1) = ss.take k ++ [s] := by
  rw [List.take_add_one, h]; rfl
theorem add_run (a b c : ByteArray) (h : a ++ b = c) (hs : c.size ≤ 1000000) (W : World) : (Op.stringOp .add a b).run Tryd.prog W = .ok (.string c) W := by
  rw [run_string_add_sum, h]
  have : c.size = a.size + b.size := by rw [← h, ByteArray.size_append]
  omega

set_option maxRecDepth 10000 in
set_option maxHeartbeats 3200000 in
theorem refJoin_walk (p : Option Addr) (n d : Nat) (ss : List ByteArray) (w : World) (hn : ss.length = n) (hm : n ≤ 100000) (hp : TextsIn w p ss) (hz : (jb ss).size ≤ 1000000) :
    Calls Tryd.prog 13 #[.slice p n d] w fun e w' => e = .returned (.string (jb ss)) ∧ w = w' := by
  have HN := Lib.hid hn; have HP := Lib.hid hp; have HZ := Lib.hid hz; have HM := Lib.hid hm
  have hni : (n : Int) ≤ 100000 := by omega
  clear hn hp hz hm
  go_enter Tryd.func13, Tryd.ntmps13
  go_wp2
  go_loop [3, 4, 7] (fun out _ i => ∃ k : Nat, k ≤ n ∧ i = .int .i64 k ∧ out = .string (jb (ss.take k))) (fun _ _ i => n - (intOf i).toNat)
  case atStart => exact ⟨0, Nat.zero_le _, rfl, rfl⟩
  case round =>
    obtain ⟨k, hk, rfl, rfl⟩ := hrel
    by_cases hlt : k < n
    · obtain ⟨b, o, rfl, K, A, a0, a1, a2⟩ := HP.out.get k (by rw [HN.out]; exact hlt)
      have hs := sel_get ss k (by rw [HN.out]; exact hlt)
      have hst := take_step ss k _ hs
      have hle := jb_take_size ss (k + 1)
      have hz := HZ.out
      clear hs
      generalize Words.sel ss k = T at *
      by_cases h0 : k = 0
      · subst h0
        rw [hst] at hle
        have hadd : ∀ W, (Op.stringOp .add (jb (ss.take 0)) T).run Tryd.prog W = .ok (.string (jb (ss.take 0 ++ [T]))) W := fun W =>
          add_run _ _ _ (by rw [List.take_zero, List.nil_append, jb_nil, jb_one]; apply Words.bytes_ext; simp) (by omega) W
        have HST := Lib.hid hst
        generalize jb (ss.take 0) = P at *
        generalize hq : jb (ss.take 0 ++ [T]) = P2 at *
        have HQ := Lib.hid hq
        clear hst hle hz hq
        go_wp2
        go_round
        case rel => exact ⟨1, by omega, by go_num, by rw [HST.out, HQ.out]⟩
        case measure => simp [intOf]; omega
      · have hpos : (0 : Int) < (k : Int) := by omega
        rw [hst] at hle
        have hsn := jb_snoc (ss.take k) T (fun e => h0 (by have := congrArg List.length e; rw [List.length_take, HN.out] at this; simp at this; omega))
        have hsz : (jb (ss.take k ++ [T])).size = (jb (ss.take k) ++ ⟨#[32]⟩).size + T.size := by rw [hsn, ByteArray.size_append]
        have hadd1 : ∀ W, (Op.stringOp .add (jb (ss.take k)) ⟨#[32]⟩).run Tryd.prog W = .ok (.string (jb (ss.take k) ++ ⟨#[32]⟩)) W := fun W => add_run _ _ _ rfl (by omega) W
        have hadd2 : ∀ W, (Op.stringOp .add (jb (ss.take k) ++ ⟨#[32]⟩) T).run Tryd.prog W = .ok (.string (jb (ss.take k ++ [T]))) W := fun W => add_run _ _ _ hsn.symm (by omega) W
        have HST := Lib.hid hst
        generalize jb (ss.take k) ++ ⟨#[32]⟩ = X at *
        generalize jb (ss.take k) = P at *
        generalize hq : jb (ss.take k ++ [T]) = P2 at *
        have HQ := Lib.hid hq
        clear hst hle hz hq hsn hsz h0
        go_wp2
        go_round
        case rel => exact ⟨k + 1, by omega, by go_num, by rw [HST.out, HQ.out]⟩
        case measure => simp [intOf]; omega
    · obtain rfl : k = n := by omega
      have hall : ss.take k = ss := List.take_of_length_le (by rw [HN.out]; exact Nat.le_refl _)
      rw [hall]
      clear hall
      go_wp2
      go_ret
      exact ⟨rfl, rfl⟩
end Token
end Go.Proofs.YtklibniadcpjhaaDoor
