/-
  DERIVED. GIVEN WITH THE SEED: THE CARDS: each row of YtkfkpjngiffamaaGreatDoorRows.lean that lists a variable, with what it lists TIED to the program's text (the seventh form; the later family's looks); each row that meets fmt, with fmt's text TOLD by the authors' own Lean function (tested against real Go, not proved from fmt's source: count such statements apart). THE CARD IS WHAT COUNTS. Prove the row's statement (the work); the ties are given (YtkfkpjngiffamaaGreatDoorTie.lean); close each card by the builder's one call (the guide's Derived/Test/ToyasCard.lean, 'card_holds'). Laid BY PROGRAM, IN A SANDBOX (cutbox-door.mjs). By AI agents, Wed Nov 11 2026. No macro, syntax, notation, axiom, sorry.
-/
import Derived.Test.YtkfkpjngiffamaaGreatDoorRows
import GoSem.ClaimSeven
namespace Go.Proofs.YtkfkpjngiffamaaGreatDoor
namespace Rows

/-- THE TIED CARD OF 'enclavelaw14.DisplayCounts'. -/
def displayCountsCard : Claim7 := { stood := { row := displayCountsRow, standIns := [], harness := (true, "e81d7ab930680d3b603161ffc2699d3b870398ff70bd26b1a06dd9fc0a2d4927"), looks := false }, kinds := [], alts := [], laidByText := true, laidKinds := [.data, .data, .data, .listed, .data, .data, .data], laidTests := true, laidLooks := .later }
def DisplayCountsCardSaid : Prop := Claim7.holds Tryz.pinned (.plain (OpenSpec.ofChange displayCountsSpec)) displayCountsCard

/-- THE TIED CARD OF 'enclavelaw14.DisplayApart'. -/
def displayApartCard : Claim7 := { stood := { row := displayApartRow, standIns := [], harness := (true, "e81d7ab930680d3b603161ffc2699d3b870398ff70bd26b1a06dd9fc0a2d4927"), looks := false }, kinds := [], alts := [], laidByText := true, laidKinds := [.data, .data, .data, .data, .data], laidTests := true, laidLooks := .later }
def DisplayApartCardSaid : Prop := Claim7.holds Tryz.pinned (.plain (OpenSpec.ofChange displayApartSpec)) displayApartCard

/-- THE TIED CARD OF 'enclavelaw14.DisplayBrackets'. -/
def displayBracketsCard : Claim7 := { stood := { row := displayBracketsRow, standIns := [], harness := (true, "e81d7ab930680d3b603161ffc2699d3b870398ff70bd26b1a06dd9fc0a2d4927"), looks := false }, kinds := [], alts := [], laidByText := true, laidKinds := [.data, .data, .data, .listed, .data, .data, .data], laidTests := true, laidLooks := .later }
def DisplayBracketsCardSaid : Prop := Claim7.holds Tryz.pinned (.plain (OpenSpec.ofChange displayBracketsSpec)) displayBracketsCard

/-- THE SECOND FORM's CARD OF 'enclavelaw14.DisplayCounts'. -/
def displayCountsUptoCard : Claim7 := { stood := { row := displayCountsUptoRow, standIns := [], harness := (true, "e81d7ab930680d3b603161ffc2699d3b870398ff70bd26b1a06dd9fc0a2d4927"), looks := false }, kinds := [], alts := [], laidByText := true, laidKinds := [.data, .data, .data, .listed, .data, .data, .data], laidTests := true, laidLooks := .later }
def DisplayCountsUptoCardSaid : Prop := Claim7.holds Tryz.pinned (.plain (OpenSpec.upto displayCountsSpec)) displayCountsUptoCard

/-- THE SECOND FORM's CARD OF 'enclavelaw14.DisplayApart'. -/
def displayApartUptoCard : Claim7 := { stood := { row := displayApartUptoRow, standIns := [], harness := (true, "e81d7ab930680d3b603161ffc2699d3b870398ff70bd26b1a06dd9fc0a2d4927"), looks := false }, kinds := [], alts := [], laidByText := true, laidKinds := [.data, .data, .data, .data, .data], laidTests := true, laidLooks := .later }
def DisplayApartUptoCardSaid : Prop := Claim7.holds Tryz.pinned (.plain (OpenSpec.upto displayApartSpec)) displayApartUptoCard

/-- THE SECOND FORM's CARD OF 'enclavelaw14.DisplayBrackets'. -/
def displayBracketsUptoCard : Claim7 := { stood := { row := displayBracketsUptoRow, standIns := [], harness := (true, "e81d7ab930680d3b603161ffc2699d3b870398ff70bd26b1a06dd9fc0a2d4927"), looks := false }, kinds := [], alts := [], laidByText := true, laidKinds := [.data, .data, .data, .listed, .data, .data, .data], laidTests := true, laidLooks := .later }
def DisplayBracketsUptoCardSaid : Prop := Claim7.holds Tryz.pinned (.plain (OpenSpec.upto displayBracketsSpec)) displayBracketsUptoCard
end Rows
end Go.Proofs.YtkfkpjngiffamaaGreatDoor
