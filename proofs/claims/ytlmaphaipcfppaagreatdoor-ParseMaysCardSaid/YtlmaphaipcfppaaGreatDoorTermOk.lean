/- May a term be: mathematics. -/
import Derived.Test.YtlmaphaipcfppaaGreatDoorTermNodeW
import Derived.Test.YtlmaphaipcfppaaGreatDoorTermAll
namespace Go.Proofs.YtlmaphaipcfppaaGreatDoor
open Go.RowKit
set_option linter.unusedVariables false
namespace Term
open Words (nameB exnB)

mutual
/-- May all nodes be? -/
def okT : Tm → Bool
  | .node h l => nodeB h l.length && okK l
def okK : List Tm → Bool
  | [] => true
  | t :: ts => okT t && okK ts
end
theorem okT_eq (t : Tm) : okT t = (nodeB t.h t.ks.length && okK t.ks) := by
  cases t
  conv => lhs; unfold okT
  rfl
theorem okK_nil : okK [] = true := by unfold okK; rfl
theorem okK_cons (t : Tm) (ts : List Tm) : okK (t :: ts) = (okT t && okK ts) := by conv => lhs; unfold okK
/-- May a term be? -/
def mayT (t : Tm) : Bool := decide (wt t ≤ 4000) && okT t
end Term
end Go.Proofs.YtlmaphaipcfppaaGreatDoor
