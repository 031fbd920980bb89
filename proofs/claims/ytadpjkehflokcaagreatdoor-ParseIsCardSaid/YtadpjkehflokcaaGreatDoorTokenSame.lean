/- The walk of the document's Same on equal tokens. -/
import Derived.Test.YtadpjkehflokcaaGreatDoorGTokA
import Derived.Deep.QuietTactic
import Derived.BigQuiet
namespace Go.Proofs.YtadpjkehflokcaaGreatDoor
open Go.RowKit
set_option linter.unusedVariables false
namespace Token
open Chars (ret_i64 ret_bool below_draws)

theorem same_none (p q : Option Addr) (c d : Nat) (w : World) :
    Calls Tryz.prog 27 #[.slice p 0 c, .slice q 0 d] w fun e w' => e = .returned (.bool true) ∧ Below w.heap.size w w' := by
  go_enter Tryz.func27, Tryz.ntmps27
  go_wp2
  go_loop [13] (fun i => i = .int .i64 0) (fun _ => 0)
  case atStart => rfl
  case round =>
    subst hrel
    go_wp2
    go_ret
    exact ⟨rfl, Below.refl _ _⟩

set_option maxHeartbeats 3200000 in
theorem same_toks (g h c d : Nat) (ts : List Tok) (w : World) (hn : ts.length ≤ 100000) (hg : ToksAt w g ts) (hh : ToksAt w h ts) :
    Calls Tryz.prog 27 #[.slice (some ⟨g, 0, none⟩) ts.length c, .slice (some ⟨h, 0, none⟩) ts.length d] w fun e w' => e = .returned (.bool true) ∧ Below w.heap.size w w' := by
  obtain ⟨n, hnn⟩ : ∃ n, n = ts.length := ⟨_, rfl⟩
  rw [← hnn]
  have hni : (n : Int) ≤ 100000 := by omega
  have HN := Lib.hid hnn; have HG := Lib.hid hg; have HH := Lib.hid hh
  clear hn hg hh hnn
  go_enter Tryz.func27, Tryz.ntmps27
  go_wp2
  go_loopw [5, 13] (fun _ i wr => ∃ k : Nat, k ≤ n ∧ i = .int .i64 k ∧ ∃ q, wr = w.drewN q) (fun _ i _ => n - (intOf i).toNat)
  case atStart => exact ⟨0, Nat.zero_le _, rfl, 0, rfl⟩
  case round =>
    obtain ⟨k, hk, rfl, q, rfl⟩ := hrel
    by_cases hlt : k < n
    · obtain ⟨a0, a1, a2⟩ := HG.out k (by rw [← HN.out]; exact hlt)
      obtain ⟨b0, b1, b2⟩ := HH.out k (by rw [← HN.out]; exact hlt)
      generalize (tel ts k).k = K at *
      generalize (tel ts k).s = T at *
      generalize (tel ts k).a = A at *
      go_wp2
      go_quiet (fail)
      go_wp2
      go_roundw
      case rel => exact ⟨k + 1, by omega, by go_num, _, rfl⟩
      case measure => simp [intOf]; omega
    · go_wp2
      go_ret
      exact ⟨rfl, below_draws (Below.refl _ _) _⟩
end Token
end Go.Proofs.YtadpjkehflokcaaGreatDoor
