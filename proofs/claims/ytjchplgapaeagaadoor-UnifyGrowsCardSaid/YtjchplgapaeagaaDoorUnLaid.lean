/- From what a row lists of package-level variables to what layer 9's walks ask of the world. -/
import Derived.Test.YtjchplgapaeagaaDoorGV04
import Derived.Stop.LaidErr
import Derived.LaidMore
import Derived.LaidByTextLater
namespace Go.Proofs.YtjchplgapaeagaaDoor
open Go.RowKit Go.ChangeShapes
namespace Types

theorem kids_of {W : World} {r : List (String × DataW Unit)} (h : laidMet Tryd.prog (("enclave/types.kids", Rows.laid_enclave_types_kids) :: r) W) : KidsLaid W :=
  kidsLaid_of_tab (Lib.tabIs_of_head (zs := kidsTab) (k := .i64) gKids (t := 108) (by kernel_rfl) Tryd.underlying108 Tryd.underlying3 (by kernel_rfl) (by kernel_rfl) h)
end Types
end Go.Proofs.YtjchplgapaeagaaDoor
