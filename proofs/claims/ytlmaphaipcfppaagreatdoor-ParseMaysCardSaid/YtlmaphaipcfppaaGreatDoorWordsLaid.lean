/- From what a row lists of package-level variables to what layer 2's walks ask of the world. -/
import Derived.Test.YtlmaphaipcfppaaGreatDoorWordsLaidKw
import Derived.Test.YtlmaphaipcfppaaGreatDoorWordsNum
import Derived.Stop.LaidErr
import Derived.LaidMore
import Derived.LaidByTextLater
namespace Go.Proofs.YtlmaphaipcfppaaGreatDoor
open Go.RowKit Go.ChangeShapes
namespace Words

theorem powLaid_of {W : World} {r : List (String × DataW Unit)} (h : laidMet Tryz.prog (("internal/strconv.uint64pow10", Rows.laid_internal_strconv_uint64pow10) :: r) W) : Lib.TabIs Tryz.prog W "internal/strconv.uint64pow10" .u64 Lib.pow10Tab :=
  Lib.tabIs_of_head (zs := Lib.pow10Tab) (k := .u64) gPow (t := 158) (by kernel_rfl) Tryz.underlying158 Tryz.underlying131 (by kernel_rfl) (by kernel_rfl) h

theorem starErr : "*errors.errorString" = "*" ++ "errors.errorString" := by decide
theorem errRow : ∀ u, Tryz.prog.typeName? 3 u = some "*errors.errorString" → u = 148 := fun u h =>
  typeName_ptr_named (nm := "errors.errorString") (by rw [← starErr]; kernel_rfl) (by kernel_rfl) (by decide) u (by rw [← starErr]; exact h)
theorem rangeLaid_of {W : World} {r : List (String × DataW Unit)} (h : laidMet Tryz.prog (("strconv.ErrRange", Rows.laid_strconv_ErrRange) :: r) W) : ∃ tp p, W.var? Tryz.prog "strconv.ErrRange" = some #[.iface tp p] := by
  obtain ⟨a, s, hv, _⟩ := laid_sentinel h gRange (ti := 122) (by kernel_rfl) Tryz.underlying122 errRow Tryz.underlying148 Tryz.underlying150 rfl rfl Tryz.underlying9 (by kernel_rfl) (by kernel_rfl)
  exact ⟨_, _, hv⟩
end Words
end Go.Proofs.YtlmaphaipcfppaaGreatDoor
