/- The walks of a number's digits: the program's. -/
import Derived.Test.YtggabjmfdnfckaaGreatDoorEfMath
import Derived.Test.YtggabjmfdnfckaaGreatDoorEfShelf
import Derived.Lib.AppendIntMem
import Derived.Lib.LaidTab
import Derived.Lib.SmallJoins
import Derived.Laws.BytesArg
import Derived.LoopTactic
namespace Go.Proofs.YtggabjmfdnfckaaGreatDoor
open Go.RowKit
set_option linter.unusedVariables false
namespace Effect

/-- A number's digits. -/
def digs (n : Int) : ByteArray := ⟨(Lib.itoa n).toArray⟩
theorem bytes_ext {s t : ByteArray} (h : s.data.toList = t.data.toList) : s = t := by
  cases s; cases t; simpa using h
theorem ret_str {a b : ByteArray} (h : a = b) : Ending.returned (.string a) = .returned (.string b) := by rw [h]
/-! ### The program's -/
def NumLaid (w : World) : Prop := Lib.TabIs Tryz.prog w "internal/strconv.uint64pow10" .u64 Lib.pow10Tab
theorem gPow : Tryz.prog.globalNamed "internal/strconv.uint64pow10" = some 1 := by kernel_rfl
theorem NumLaid.below {w W : World} (h : NumLaid w) (hb : Below w.heap.size w W) : NumLaid W := Go.Joins.tab_stays gPow h hb (Nat.le_refl _)
theorem digitsOf_walk (n : Int) (h0 : -9223372036854775808 ≤ n) (h1 : n ≤ 9223372036854775807) (w : World) (hl : NumLaid w) :
    Calls Tryz.prog 60 #[.int .i64 n] w fun e w' => e = .returned (.string (digs n)) ∧ Below w.heap.size w w' := by
  have H0 := Lib.hid h0; have H1 := Lib.hid h1; have HL := Lib.hid hl
  clear h0 h1 hl
  go_enter Tryz.func60, Tryz.ntmps60
  go_wp2_with (fail)
  refine (Tryz.strconv_FormatInt_10 n H0.out H1.out _ HL.out).mono ?_
  rintro e w' ⟨rfl, k, os, rfl⟩
  have hb := Lib.below_grow w.heap.size w (Nat.le_refl _) k os
  have HB := Lib.hid hb; clear hb
  go_wp2
  go_ret
  exact ⟨rfl, HB.out⟩
end Effect
end Go.Proofs.YtggabjmfdnfckaaGreatDoor
