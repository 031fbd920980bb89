/-
  DERIVED. GIVEN WITH THE SEED: THE CARDS: each row of YtolpdhkgkjnbfaaDoorRows.lean that lists a variable, with what it lists TIED to the program's text (the seventh form; the later family's looks); each row that meets fmt, with fmt's text TOLD by the authors' own Lean function (tested against real Go, not proved from fmt's source: count such statements apart). THE CARD IS WHAT COUNTS. Prove the row's statement (the work); the ties are given (YtolpdhkgkjnbfaaDoorTie.lean); close each card by the builder's one call (the guide's Derived/Test/ToyasCard.lean, 'card_holds'). Laid BY PROGRAM, IN A SANDBOX (cutbox-door.mjs). By AI agents, Wed Nov 11 2026. No macro, syntax, notation, axiom, sorry.
-/
import Derived.Test.YtolpdhkgkjnbfaaDoorRows
import GoSem.ClaimSeven
namespace Go.Proofs.YtolpdhkgkjnbfaaDoor
namespace Rows

/-- THE TIED CARD OF 'enclavelaw13.AtermBinds'. -/
def atermBindsCard : Claim7 := { stood := { row := atermBindsRow, standIns := [], harness := (true, "54d76b3517aaaafb7869405b7f19c9718dabfe41414c1e2cb29bcc32cbb29f58"), looks := false }, kinds := [], alts := [], laidByText := true, laidKinds := [.data], laidTests := true, laidLooks := .later }
def AtermBindsCardSaid : Prop := Claim7.holds Tryd.pinned (.plain (OpenSpec.ofChange atermBindsSpec)) atermBindsCard

/-- THE TIED CARD OF 'enclavelaw13.AtermErase'. -/
def atermEraseCard : Claim7 := { stood := { row := atermEraseRow, standIns := [], harness := (true, "54d76b3517aaaafb7869405b7f19c9718dabfe41414c1e2cb29bcc32cbb29f58"), looks := false }, kinds := [], alts := [], laidByText := true, laidKinds := [.data], laidTests := true, laidLooks := .later }
def AtermEraseCardSaid : Prop := Claim7.holds Tryd.pinned (.plain (OpenSpec.ofChange atermEraseSpec)) atermEraseCard

/-- THE TIED CARD OF 'enclavelaw13.AtermParts'. -/
def atermPartsCard : Claim7 := { stood := { row := atermPartsRow, standIns := [], harness := (true, "54d76b3517aaaafb7869405b7f19c9718dabfe41414c1e2cb29bcc32cbb29f58"), looks := false }, kinds := [], alts := [], laidByText := true, laidKinds := [.data], laidTests := true, laidLooks := .later }
def AtermPartsCardSaid : Prop := Claim7.holds Tryd.pinned (.plain (OpenSpec.ofChange atermPartsSpec)) atermPartsCard

/-- THE SECOND FORM's CARD OF 'enclavelaw13.AtermBinds'. -/
def atermBindsUptoCard : Claim7 := { stood := { row := atermBindsUptoRow, standIns := [], harness := (true, "54d76b3517aaaafb7869405b7f19c9718dabfe41414c1e2cb29bcc32cbb29f58"), looks := false }, kinds := [], alts := [], laidByText := true, laidKinds := [.data], laidTests := true, laidLooks := .later }
def AtermBindsUptoCardSaid : Prop := Claim7.holds Tryd.pinned (.plain (OpenSpec.upto atermBindsSpec)) atermBindsUptoCard

/-- THE SECOND FORM's CARD OF 'enclavelaw13.AtermErase'. -/
def atermEraseUptoCard : Claim7 := { stood := { row := atermEraseUptoRow, standIns := [], harness := (true, "54d76b3517aaaafb7869405b7f19c9718dabfe41414c1e2cb29bcc32cbb29f58"), looks := false }, kinds := [], alts := [], laidByText := true, laidKinds := [.data], laidTests := true, laidLooks := .later }
def AtermEraseUptoCardSaid : Prop := Claim7.holds Tryd.pinned (.plain (OpenSpec.upto atermEraseSpec)) atermEraseUptoCard

/-- THE SECOND FORM's CARD OF 'enclavelaw13.AtermParts'. -/
def atermPartsUptoCard : Claim7 := { stood := { row := atermPartsUptoRow, standIns := [], harness := (true, "54d76b3517aaaafb7869405b7f19c9718dabfe41414c1e2cb29bcc32cbb29f58"), looks := false }, kinds := [], alts := [], laidByText := true, laidKinds := [.data], laidTests := true, laidLooks := .later }
def AtermPartsUptoCardSaid : Prop := Claim7.holds Tryd.pinned (.plain (OpenSpec.upto atermPartsSpec)) atermPartsUptoCard
end Rows
end Go.Proofs.YtolpdhkgkjnbfaaDoor
