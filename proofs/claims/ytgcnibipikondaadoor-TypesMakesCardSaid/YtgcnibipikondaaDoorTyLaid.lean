/- From what a row lists of package-level variables to what layer 8's walks ask of the world. -/
import Derived.Test.YtgcnibipikondaaDoorTyAwake
import Derived.Stop.LaidErr
import Derived.LaidMore
import Derived.LaidByTextLater
namespace Go.Proofs.YtgcnibipikondaaDoor
open Go.RowKit Go.ChangeShapes
namespace Types

theorem pow_of {W : World} {r : List (String × DataW Unit)} (h : laidMet Tryd.prog (("internal/strconv.uint64pow10", Rows.laid_internal_strconv_uint64pow10) :: r) W) : NumLaid W :=
  Lib.tabIs_of_head (zs := Lib.pow10Tab) (k := .u64) gPow (t := 84) (by kernel_rfl) Tryd.underlying84 Tryd.underlying77 (by kernel_rfl) (by kernel_rfl) h
theorem kids_of {W : World} {r : List (String × DataW Unit)} (h : laidMet Tryd.prog (("enclave/types.kids", Rows.laid_enclave_types_kids) :: r) W) : KidsLaid W :=
  kidsLaid_of_tab (Lib.tabIs_of_head (zs := kidsTab) (k := .i64) gKids (t := 68) (by kernel_rfl) Tryd.underlying68 Tryd.underlying3 (by kernel_rfl) (by kernel_rfl) h)
theorem laid_of {W : World} {a b : String × DataW Unit} {r : List (String × DataW Unit)} (h : laidMet Tryd.prog (a :: b :: ("internal/strconv.uint64pow10", Rows.laid_internal_strconv_uint64pow10) :: ("enclave/types.kids", Rows.laid_enclave_types_kids) :: r) W) : Laid W :=
  ⟨kids_of h.tail.tail.tail, pow_of h.tail.tail⟩
end Types
end Go.Proofs.YtgcnibipikondaaDoor
