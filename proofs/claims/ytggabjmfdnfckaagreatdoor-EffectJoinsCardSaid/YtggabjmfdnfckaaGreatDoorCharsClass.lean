/- The walks of the program's class of a byte, and of the document's: each is 'cls', and the world stays. -/
import Derived.Test.YtggabjmfdnfckaaGreatDoorRows
import Derived.Test.YtggabjmfdnfckaaGreatDoorCharsMath
import Derived.WalkKit
import Derived.WalkLawsBesides
import Derived.Lib.Bytealg
import Derived.Lib.Walk
import Derived.Lib.Hide
namespace Go.Proofs.YtggabjmfdnfckaaGreatDoor
open Go.RowKit
namespace Chars

set_option maxRecDepth 100000 in
theorem sliteIndexByte (s : ByteArray) (c : Int) (w : World) :
    Calls Tryz.prog 115 #[.string s, .int .u8 c] w fun e w' => e = .returned (.int .i64 (ix s.data.toList c)) ∧ w = w' := by
  go_enter Tryz.func115, Tryz.ntmps115
  go_wp2
  rw [run_callFunc_extern Tryz.func123 (by kernel_rfl) (by kernel_rfl) (by kernel_rfl) (e := Extern.BytealgIndexByte.indexByte) (by kernel_rfl), Lib.run_indexByteString]
  change Oper.upon _ _ _ _ _ (Result.andThen (.ok (Value.int .i64 (ix s.data.toList c)) w) _)
  simp only [Result.andThen]
  rw [Oper.upon_value]
  go_wp2
  go_ret
  exact ⟨rfl, rfl⟩

theorem indexByte (s : ByteArray) (c : Int) (w : World) :
    Calls Tryz.prog 108 #[.string s, .int .u8 c] w fun e w' => e = .returned (.int .i64 (ix s.data.toList c)) ∧ w = w' := by
  go_enter Tryz.func108, Tryz.ntmps108
  go_wp2_with (go_at_call 115; refine (sliteIndexByte _ _ _).mono ?_; rintro e w' ⟨rfl, rfl⟩)
  go_ret
  exact ⟨rfl, rfl⟩

theorem class_walk (c : Int) (h0 : 0 ≤ c) (h1 : c ≤ 255) (w : World) :
    Calls Tryz.prog 99 #[.int .u8 c] w fun e w' => e = .returned (.int .u8 (cls c)) ∧ w = w' := by
  have hb := blank_iff c h0 h1
  have hs := sign_iff c h0 h1
  by_cases b : c = 32 ∨ c = 9 ∨ c = 10
  · have b' := hb.2 b
    have hc : cls c = 1 := by unfold cls; rw [if_pos b]
    have HC := Lib.hid hc
    clear hb hs hc b
    go_enter Tryz.func99, Tryz.ntmps99
    go_wp2_with (go_at_call 108; refine (indexByte _ _ _).mono ?_; rintro e w' ⟨rfl, rfl⟩)
    go_ret
    rw [HC.out]
    exact ⟨rfl, rfl⟩
  have b' : ¬ 0 ≤ ix [32, 9, 10] c := fun h => b (hb.1 h)
  by_cases d : 48 ≤ c ∧ c ≤ 57
  · have hc : cls c = 2 := by unfold cls; rw [if_neg b, if_pos d]
    have HC := Lib.hid hc
    clear hb hs hc b
    obtain ⟨d1, d2⟩ := d
    go_enter Tryz.func99, Tryz.ntmps99
    go_wp2_with (go_at_call 108; refine (indexByte _ _ _).mono ?_; rintro e w' ⟨rfl, rfl⟩)
    go_ret
    rw [HC.out]
    exact ⟨rfl, rfl⟩
  by_cases s : 97 ≤ c ∧ c ≤ 122
  · have hc : cls c = 3 := by unfold cls; rw [if_neg b, if_neg d, if_pos s]
    have HC := Lib.hid hc
    clear hb hs hc b
    obtain ⟨d1, d2⟩ := s
    have d3 : 48 ≤ c := by omega
    have d4 : ¬ c ≤ 57 := by omega
    clear d
    go_enter Tryz.func99, Tryz.ntmps99
    go_wp2_with (go_at_call 108; refine (indexByte _ _ _).mono ?_; rintro e w' ⟨rfl, rfl⟩)
    go_ret
    rw [HC.out]
    exact ⟨rfl, rfl⟩
  by_cases g : 65 ≤ c ∧ c ≤ 90
  · have hc : cls c = 4 := by unfold cls; rw [if_neg b, if_neg d, if_neg s, if_pos g]
    have HC := Lib.hid hc
    clear hb hs hc b
    obtain ⟨d1, d2⟩ := g
    have d3 : 48 ≤ c := by omega
    have d4 : ¬ c ≤ 57 := by omega
    have d5 : ¬ 97 ≤ c := by omega
    clear d s
    go_enter Tryz.func99, Tryz.ntmps99
    go_wp2_with (go_at_call 108; refine (indexByte _ _ _).mono ?_; rintro e w' ⟨rfl, rfl⟩)
    go_ret
    rw [HC.out]
    exact ⟨rfl, rfl⟩
  by_cases x : c ∈ [40, 41, 44, 33, 58, 61, 62, 43, 45, 42, 60, 59]
  · have x' := hs.2 x
    have hc : cls c = 5 := by unfold cls; rw [if_neg b, if_neg d, if_neg s, if_neg g, if_pos x]
    have HC := Lib.hid hc
    clear hb hs hc b x
    go_enter Tryz.func99, Tryz.ntmps99
    go_wp2_with (go_at_call 108; refine (indexByte _ _ _).mono ?_; rintro e w' ⟨rfl, rfl⟩)
    all_goals first | (exfalso; omega) | skip
    all_goals go_ret
    all_goals rw [HC.out]
    all_goals exact ⟨rfl, rfl⟩
  · have x' : ¬ 0 ≤ ix [40, 41, 44, 33, 58, 61, 62, 43, 45, 42, 60, 59] c := fun h => x (hs.1 h)
    have hc : cls c = 0 := by unfold cls; rw [if_neg b, if_neg d, if_neg s, if_neg g, if_neg x]
    have HC := Lib.hid hc
    clear hb hs hc b x
    go_enter Tryz.func99, Tryz.ntmps99
    go_wp2_with (go_at_call 108; refine (indexByte _ _ _).mono ?_; rintro e w' ⟨rfl, rfl⟩)
    all_goals first | (exfalso; omega) | skip
    all_goals go_ret
    all_goals rw [HC.out]
    all_goals exact ⟨rfl, rfl⟩
end Chars
end Go.Proofs.YtggabjmfdnfckaaGreatDoor
