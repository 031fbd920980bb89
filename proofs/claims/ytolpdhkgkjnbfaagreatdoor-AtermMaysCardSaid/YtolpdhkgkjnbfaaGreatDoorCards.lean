/-
  DERIVED. GIVEN WITH THE SEED: THE CARDS: each row of YtolpdhkgkjnbfaaGreatDoorRows.lean that lists a variable, with what it lists TIED to the program's text (the seventh form; the later family's looks); each row that meets fmt, with fmt's text TOLD by the authors' own Lean function (tested against real Go, not proved from fmt's source: count such statements apart). THE CARD IS WHAT COUNTS. Prove the row's statement (the work); the ties are given (YtolpdhkgkjnbfaaGreatDoorTie.lean); close each card by the builder's one call (the guide's Derived/Test/ToyasCard.lean, 'card_holds'). Laid BY PROGRAM, IN A SANDBOX (cutbox-door.mjs). By AI agents, Wed Nov 11 2026. No macro, syntax, notation, axiom, sorry.
-/
import Derived.Test.YtolpdhkgkjnbfaaGreatDoorRows
import GoSem.ClaimSeven
namespace Go.Proofs.YtolpdhkgkjnbfaaGreatDoor
namespace Rows

/-- THE TIED CARD OF 'enclavelaw13.AtermMays'. -/
def atermMaysCard : Claim7 := { stood := { row := atermMaysRow, standIns := [], harness := (true, "a29b68974820e520d72d0b871bd5e1e725cef19066293639617a1f506005fef8"), looks := false }, kinds := [], alts := [], laidByText := true, laidKinds := [.data], laidTests := true, laidLooks := .later }
def AtermMaysCardSaid : Prop := Claim7.holds Tryz.pinned (.plain (OpenSpec.ofChange atermMaysSpec)) atermMaysCard

/-- THE TIED CARD OF 'enclavelaw13.AtermSame'. -/
def atermSameCard : Claim7 := { stood := { row := atermSameRow, standIns := [], harness := (true, "a29b68974820e520d72d0b871bd5e1e725cef19066293639617a1f506005fef8"), looks := false }, kinds := [], alts := [], laidByText := true, laidKinds := [.data], laidTests := true, laidLooks := .later }
def AtermSameCardSaid : Prop := Claim7.holds Tryz.pinned (.plain (OpenSpec.ofChange atermSameSpec)) atermSameCard

/-- THE TIED CARD OF 'enclavelaw13.AtermNodes'. -/
def atermNodesCard : Claim7 := { stood := { row := atermNodesRow, standIns := [], harness := (true, "a29b68974820e520d72d0b871bd5e1e725cef19066293639617a1f506005fef8"), looks := false }, kinds := [], alts := [], laidByText := true, laidKinds := [.data], laidTests := true, laidLooks := .later }
def AtermNodesCardSaid : Prop := Claim7.holds Tryz.pinned (.plain (OpenSpec.ofChange atermNodesSpec)) atermNodesCard

/-- THE SECOND FORM's CARD OF 'enclavelaw13.AtermMays'. -/
def atermMaysUptoCard : Claim7 := { stood := { row := atermMaysUptoRow, standIns := [], harness := (true, "a29b68974820e520d72d0b871bd5e1e725cef19066293639617a1f506005fef8"), looks := false }, kinds := [], alts := [], laidByText := true, laidKinds := [.data], laidTests := true, laidLooks := .later }
def AtermMaysUptoCardSaid : Prop := Claim7.holds Tryz.pinned (.plain (OpenSpec.upto atermMaysSpec)) atermMaysUptoCard

/-- THE SECOND FORM's CARD OF 'enclavelaw13.AtermSame'. -/
def atermSameUptoCard : Claim7 := { stood := { row := atermSameUptoRow, standIns := [], harness := (true, "a29b68974820e520d72d0b871bd5e1e725cef19066293639617a1f506005fef8"), looks := false }, kinds := [], alts := [], laidByText := true, laidKinds := [.data], laidTests := true, laidLooks := .later }
def AtermSameUptoCardSaid : Prop := Claim7.holds Tryz.pinned (.plain (OpenSpec.upto atermSameSpec)) atermSameUptoCard

/-- THE SECOND FORM's CARD OF 'enclavelaw13.AtermNodes'. -/
def atermNodesUptoCard : Claim7 := { stood := { row := atermNodesUptoRow, standIns := [], harness := (true, "a29b68974820e520d72d0b871bd5e1e725cef19066293639617a1f506005fef8"), looks := false }, kinds := [], alts := [], laidByText := true, laidKinds := [.data], laidTests := true, laidLooks := .later }
def AtermNodesUptoCardSaid : Prop := Claim7.holds Tryz.pinned (.plain (OpenSpec.upto atermNodesSpec)) atermNodesUptoCard
end Rows
end Go.Proofs.YtolpdhkgkjnbfaaGreatDoor
