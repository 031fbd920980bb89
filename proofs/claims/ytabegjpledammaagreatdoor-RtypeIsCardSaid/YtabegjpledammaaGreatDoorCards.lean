/-
  DERIVED. GIVEN WITH THE SEED: THE CARDS: each row of YtabegjpledammaaGreatDoorRows.lean that lists a variable, with what it lists TIED to the program's text (the seventh form; the later family's looks); each row that meets fmt, with fmt's text TOLD by the authors' own Lean function (tested against real Go, not proved from fmt's source: count such statements apart). THE CARD IS WHAT COUNTS. Prove the row's statement (the work); the ties are given (YtabegjpledammaaGreatDoorTie.lean); close each card by the builder's one call (the guide's Derived/Test/ToyasCard.lean, 'card_holds'). Laid BY PROGRAM, IN A SANDBOX (cutbox-door.mjs). By AI agents, Wed Nov 11 2026. No macro, syntax, notation, axiom, sorry.
-/
import Derived.Test.YtabegjpledammaaGreatDoorRows
import GoSem.ClaimSeven
namespace Go.Proofs.YtabegjpledammaaGreatDoor
namespace Rows

/-- THE TIED CARD OF 'enclavelaw12.RtypeIs'. -/
def rtypeIsCard : Claim7 := { stood := { row := rtypeIsRow, standIns := [], harness := (true, "d5915a79f72cb50ff0448c4ab1ee422239a4218da7205e7b1164fd1ca9e81915"), looks := false }, kinds := [], alts := [], laidByText := true, laidKinds := [.data, .data, .data], laidTests := true, laidLooks := .later }
def RtypeIsCardSaid : Prop := Claim7.holds Tryz.pinned (.plain (OpenSpec.ofChange rtypeIsSpec)) rtypeIsCard

/-- THE TIED CARD OF 'enclavelaw12.RtypeSame'. -/
def rtypeSameCard : Claim7 := { stood := { row := rtypeSameRow, standIns := [], harness := (true, "d5915a79f72cb50ff0448c4ab1ee422239a4218da7205e7b1164fd1ca9e81915"), looks := false }, kinds := [], alts := [], laidByText := true, laidKinds := [.data, .data, .data], laidTests := true, laidLooks := .later }
def RtypeSameCardSaid : Prop := Claim7.holds Tryz.pinned (.plain (OpenSpec.ofChange rtypeSameSpec)) rtypeSameCard

/-- THE TIED CARD OF 'enclavelaw12.RtypeParts'. -/
def rtypePartsCard : Claim7 := { stood := { row := rtypePartsRow, standIns := [], harness := (true, "d5915a79f72cb50ff0448c4ab1ee422239a4218da7205e7b1164fd1ca9e81915"), looks := false }, kinds := [], alts := [], laidByText := true, laidKinds := [.data, .data, .data], laidTests := true, laidLooks := .later }
def RtypePartsCardSaid : Prop := Claim7.holds Tryz.pinned (.plain (OpenSpec.ofChange rtypePartsSpec)) rtypePartsCard

/-- THE TIED CARD OF 'enclavelaw12.RtypeBare'. -/
def rtypeBareCard : Claim7 := { stood := { row := rtypeBareRow, standIns := [], harness := (true, "d5915a79f72cb50ff0448c4ab1ee422239a4218da7205e7b1164fd1ca9e81915"), looks := false }, kinds := [], alts := [], laidByText := true, laidKinds := [.data, .data, .data], laidTests := true, laidLooks := .later }
def RtypeBareCardSaid : Prop := Claim7.holds Tryz.pinned (.plain (OpenSpec.ofChange rtypeBareSpec)) rtypeBareCard

/-- THE SECOND FORM's CARD OF 'enclavelaw12.RtypeIs'. -/
def rtypeIsUptoCard : Claim7 := { stood := { row := rtypeIsUptoRow, standIns := [], harness := (true, "d5915a79f72cb50ff0448c4ab1ee422239a4218da7205e7b1164fd1ca9e81915"), looks := false }, kinds := [], alts := [], laidByText := true, laidKinds := [.data, .data, .data], laidTests := true, laidLooks := .later }
def RtypeIsUptoCardSaid : Prop := Claim7.holds Tryz.pinned (.plain (OpenSpec.upto rtypeIsSpec)) rtypeIsUptoCard

/-- THE SECOND FORM's CARD OF 'enclavelaw12.RtypeSame'. -/
def rtypeSameUptoCard : Claim7 := { stood := { row := rtypeSameUptoRow, standIns := [], harness := (true, "d5915a79f72cb50ff0448c4ab1ee422239a4218da7205e7b1164fd1ca9e81915"), looks := false }, kinds := [], alts := [], laidByText := true, laidKinds := [.data, .data, .data], laidTests := true, laidLooks := .later }
def RtypeSameUptoCardSaid : Prop := Claim7.holds Tryz.pinned (.plain (OpenSpec.upto rtypeSameSpec)) rtypeSameUptoCard

/-- THE SECOND FORM's CARD OF 'enclavelaw12.RtypeParts'. -/
def rtypePartsUptoCard : Claim7 := { stood := { row := rtypePartsUptoRow, standIns := [], harness := (true, "d5915a79f72cb50ff0448c4ab1ee422239a4218da7205e7b1164fd1ca9e81915"), looks := false }, kinds := [], alts := [], laidByText := true, laidKinds := [.data, .data, .data], laidTests := true, laidLooks := .later }
def RtypePartsUptoCardSaid : Prop := Claim7.holds Tryz.pinned (.plain (OpenSpec.upto rtypePartsSpec)) rtypePartsUptoCard

/-- THE SECOND FORM's CARD OF 'enclavelaw12.RtypeBare'. -/
def rtypeBareUptoCard : Claim7 := { stood := { row := rtypeBareUptoRow, standIns := [], harness := (true, "d5915a79f72cb50ff0448c4ab1ee422239a4218da7205e7b1164fd1ca9e81915"), looks := false }, kinds := [], alts := [], laidByText := true, laidKinds := [.data, .data, .data], laidTests := true, laidLooks := .later }
def RtypeBareUptoCardSaid : Prop := Claim7.holds Tryz.pinned (.plain (OpenSpec.upto rtypeBareSpec)) rtypeBareUptoCard
end Rows
end Go.Proofs.YtabegjpledammaaGreatDoor
