/-
  DERIVED. GIVEN WITH THE SEED: THE CARDS: each row of YtfncpcijfphngaaGreatDoorRows.lean that lists a variable, with what it lists TIED to the program's text (the seventh form; the later family's looks); each row that meets fmt, with fmt's text TOLD by the authors' own Lean function (tested against real Go, not proved from fmt's source: count such statements apart). THE CARD IS WHAT COUNTS. Prove the row's statement (the work); the ties are given (YtfncpcijfphngaaGreatDoorTie.lean); close each card by the builder's one call (the guide's Derived/Test/ToyasCard.lean, 'card_holds'). Laid BY PROGRAM, IN A SANDBOX (cutbox-door.mjs). By AI agents, Wed Nov 11 2026. No macro, syntax, notation, axiom, sorry.
-/
import Derived.Test.YtfncpcijfphngaaGreatDoorRows
import GoSem.ClaimSeven
namespace Go.Proofs.YtfncpcijfphngaaGreatDoor
namespace Rows

/-- THE TIED CARD OF 'enclavelaw14.DisplayIs'. -/
def displayIsCard : Claim7 := { stood := { row := displayIsRow, standIns := [], harness := (true, "4c41aa019d9d41b64ce5365cf6a166a6430435e0e8ea0b0f0d2e9942c54c72fe"), looks := false }, kinds := [], alts := [], laidByText := true, laidKinds := [.data, .data, .data, .listed, .data, .data, .data], laidTests := true, laidLooks := .later }
def DisplayIsCardSaid : Prop := Claim7.holds Tryz.pinned (.plain (OpenSpec.ofChange displayIsSpec)) displayIsCard

/-- THE TIED CARD OF 'enclavelaw14.DisplayCounts'. -/
def displayCountsCard : Claim7 := { stood := { row := displayCountsRow, standIns := [], harness := (true, "4c41aa019d9d41b64ce5365cf6a166a6430435e0e8ea0b0f0d2e9942c54c72fe"), looks := false }, kinds := [], alts := [], laidByText := true, laidKinds := [.data, .data, .data, .listed, .data, .data, .data], laidTests := true, laidLooks := .later }
def DisplayCountsCardSaid : Prop := Claim7.holds Tryz.pinned (.plain (OpenSpec.ofChange displayCountsSpec)) displayCountsCard

/-- THE TIED CARD OF 'enclavelaw14.DisplayApart'. -/
def displayApartCard : Claim7 := { stood := { row := displayApartRow, standIns := [], harness := (true, "4c41aa019d9d41b64ce5365cf6a166a6430435e0e8ea0b0f0d2e9942c54c72fe"), looks := false }, kinds := [], alts := [], laidByText := true, laidKinds := [.data, .data, .data, .data, .data], laidTests := true, laidLooks := .later }
def DisplayApartCardSaid : Prop := Claim7.holds Tryz.pinned (.plain (OpenSpec.ofChange displayApartSpec)) displayApartCard

/-- THE TIED CARD OF 'enclavelaw14.DisplayParts'. -/
def displayPartsCard : Claim7 := { stood := { row := displayPartsRow, standIns := [], harness := (true, "4c41aa019d9d41b64ce5365cf6a166a6430435e0e8ea0b0f0d2e9942c54c72fe"), looks := false }, kinds := [], alts := [], laidByText := true, laidKinds := [.data, .data, .data, .data, .data], laidTests := true, laidLooks := .later }
def DisplayPartsCardSaid : Prop := Claim7.holds Tryz.pinned (.plain (OpenSpec.ofChange displayPartsSpec)) displayPartsCard

/-- THE TIED CARD OF 'enclavelaw14.DisplayBrackets'. -/
def displayBracketsCard : Claim7 := { stood := { row := displayBracketsRow, standIns := [], harness := (true, "4c41aa019d9d41b64ce5365cf6a166a6430435e0e8ea0b0f0d2e9942c54c72fe"), looks := false }, kinds := [], alts := [], laidByText := true, laidKinds := [.data, .data, .data, .listed, .data, .data, .data], laidTests := true, laidLooks := .later }
def DisplayBracketsCardSaid : Prop := Claim7.holds Tryz.pinned (.plain (OpenSpec.ofChange displayBracketsSpec)) displayBracketsCard

/-- THE SECOND FORM's CARD OF 'enclavelaw14.DisplayIs'. -/
def displayIsUptoCard : Claim7 := { stood := { row := displayIsUptoRow, standIns := [], harness := (true, "4c41aa019d9d41b64ce5365cf6a166a6430435e0e8ea0b0f0d2e9942c54c72fe"), looks := false }, kinds := [], alts := [], laidByText := true, laidKinds := [.data, .data, .data, .listed, .data, .data, .data], laidTests := true, laidLooks := .later }
def DisplayIsUptoCardSaid : Prop := Claim7.holds Tryz.pinned (.plain (OpenSpec.upto displayIsSpec)) displayIsUptoCard

/-- THE SECOND FORM's CARD OF 'enclavelaw14.DisplayCounts'. -/
def displayCountsUptoCard : Claim7 := { stood := { row := displayCountsUptoRow, standIns := [], harness := (true, "4c41aa019d9d41b64ce5365cf6a166a6430435e0e8ea0b0f0d2e9942c54c72fe"), looks := false }, kinds := [], alts := [], laidByText := true, laidKinds := [.data, .data, .data, .listed, .data, .data, .data], laidTests := true, laidLooks := .later }
def DisplayCountsUptoCardSaid : Prop := Claim7.holds Tryz.pinned (.plain (OpenSpec.upto displayCountsSpec)) displayCountsUptoCard

/-- THE SECOND FORM's CARD OF 'enclavelaw14.DisplayApart'. -/
def displayApartUptoCard : Claim7 := { stood := { row := displayApartUptoRow, standIns := [], harness := (true, "4c41aa019d9d41b64ce5365cf6a166a6430435e0e8ea0b0f0d2e9942c54c72fe"), looks := false }, kinds := [], alts := [], laidByText := true, laidKinds := [.data, .data, .data, .data, .data], laidTests := true, laidLooks := .later }
def DisplayApartUptoCardSaid : Prop := Claim7.holds Tryz.pinned (.plain (OpenSpec.upto displayApartSpec)) displayApartUptoCard

/-- THE SECOND FORM's CARD OF 'enclavelaw14.DisplayParts'. -/
def displayPartsUptoCard : Claim7 := { stood := { row := displayPartsUptoRow, standIns := [], harness := (true, "4c41aa019d9d41b64ce5365cf6a166a6430435e0e8ea0b0f0d2e9942c54c72fe"), looks := false }, kinds := [], alts := [], laidByText := true, laidKinds := [.data, .data, .data, .data, .data], laidTests := true, laidLooks := .later }
def DisplayPartsUptoCardSaid : Prop := Claim7.holds Tryz.pinned (.plain (OpenSpec.upto displayPartsSpec)) displayPartsUptoCard

/-- THE SECOND FORM's CARD OF 'enclavelaw14.DisplayBrackets'. -/
def displayBracketsUptoCard : Claim7 := { stood := { row := displayBracketsUptoRow, standIns := [], harness := (true, "4c41aa019d9d41b64ce5365cf6a166a6430435e0e8ea0b0f0d2e9942c54c72fe"), looks := false }, kinds := [], alts := [], laidByText := true, laidKinds := [.data, .data, .data, .listed, .data, .data, .data], laidTests := true, laidLooks := .later }
def DisplayBracketsUptoCardSaid : Prop := Claim7.holds Tryz.pinned (.plain (OpenSpec.upto displayBracketsSpec)) displayBracketsUptoCard
end Rows
end Go.Proofs.YtfncpcijfphngaaGreatDoor
