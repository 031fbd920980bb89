/-
  DERIVED. GIVEN WITH THE SEED: THE CARDS: each row of YtggabjmfdnfckaaDoorRows.lean that lists a variable, with what it lists TIED to the program's text (the seventh form; the later family's looks); each row that meets fmt, with fmt's text TOLD by the authors' own Lean function (tested against real Go, not proved from fmt's source: count such statements apart). THE CARD IS WHAT COUNTS. Prove the row's statement (the work); the ties are given (YtggabjmfdnfckaaDoorTie.lean); close each card by the builder's one call (the guide's Derived/Test/ToyasCard.lean, 'card_holds'). Laid BY PROGRAM, IN A SANDBOX (cutbox-door.mjs). By AI agents, Wed Nov 11 2026. No macro, syntax, notation, axiom, sorry.
-/
import Derived.Test.YtggabjmfdnfckaaDoorRows
import GoSem.ClaimSeven
namespace Go.Proofs.YtggabjmfdnfckaaDoor
namespace Rows

/-- THE TIED CARD OF 'enclavelaw11.EffectIs'. -/
def effectIsCard : Claim7 := { stood := { row := effectIsRow, standIns := [], harness := (true, "bc8f994a07aaedc4b5efe4e13a9a982ec18a78398abc6ff1c6e41b4c2b84c4d6"), looks := false }, kinds := [], alts := [], laidByText := true, laidKinds := [.data, .data, .data], laidTests := true, laidLooks := .later }
def EffectIsCardSaid : Prop := Claim7.holds Tryd.pinned (.plain (OpenSpec.ofChange effectIsSpec)) effectIsCard

/-- THE TIED CARD OF 'enclavelaw11.EffectWithin'. -/
def effectWithinCard : Claim7 := { stood := { row := effectWithinRow, standIns := [], harness := (true, "bc8f994a07aaedc4b5efe4e13a9a982ec18a78398abc6ff1c6e41b4c2b84c4d6"), looks := false }, kinds := [], alts := [], laidByText := true, laidKinds := [.data, .data, .data], laidTests := true, laidLooks := .later }
def EffectWithinCardSaid : Prop := Claim7.holds Tryd.pinned (.plain (OpenSpec.ofChange effectWithinSpec)) effectWithinCard

/-- THE TIED CARD OF 'enclavelaw11.EffectSwaps'. -/
def effectSwapsCard : Claim7 := { stood := { row := effectSwapsRow, standIns := [], harness := (true, "bc8f994a07aaedc4b5efe4e13a9a982ec18a78398abc6ff1c6e41b4c2b84c4d6"), looks := false }, kinds := [], alts := [], laidByText := true, laidKinds := [.data, .data, .data], laidTests := true, laidLooks := .later }
def EffectSwapsCardSaid : Prop := Claim7.holds Tryd.pinned (.plain (OpenSpec.ofChange effectSwapsSpec)) effectSwapsCard

/-- THE TIED CARD OF 'enclavelaw11.EffectParts'. -/
def effectPartsCard : Claim7 := { stood := { row := effectPartsRow, standIns := [], harness := (true, "bc8f994a07aaedc4b5efe4e13a9a982ec18a78398abc6ff1c6e41b4c2b84c4d6"), looks := false }, kinds := [], alts := [], laidByText := true, laidKinds := [.data, .data, .data], laidTests := true, laidLooks := .later }
def EffectPartsCardSaid : Prop := Claim7.holds Tryd.pinned (.plain (OpenSpec.ofChange effectPartsSpec)) effectPartsCard

/-- THE SECOND FORM's CARD OF 'enclavelaw11.EffectIs'. -/
def effectIsUptoCard : Claim7 := { stood := { row := effectIsUptoRow, standIns := [], harness := (true, "bc8f994a07aaedc4b5efe4e13a9a982ec18a78398abc6ff1c6e41b4c2b84c4d6"), looks := false }, kinds := [], alts := [], laidByText := true, laidKinds := [.data, .data, .data], laidTests := true, laidLooks := .later }
def EffectIsUptoCardSaid : Prop := Claim7.holds Tryd.pinned (.plain (OpenSpec.upto effectIsSpec)) effectIsUptoCard

/-- THE SECOND FORM's CARD OF 'enclavelaw11.EffectWithin'. -/
def effectWithinUptoCard : Claim7 := { stood := { row := effectWithinUptoRow, standIns := [], harness := (true, "bc8f994a07aaedc4b5efe4e13a9a982ec18a78398abc6ff1c6e41b4c2b84c4d6"), looks := false }, kinds := [], alts := [], laidByText := true, laidKinds := [.data, .data, .data], laidTests := true, laidLooks := .later }
def EffectWithinUptoCardSaid : Prop := Claim7.holds Tryd.pinned (.plain (OpenSpec.upto effectWithinSpec)) effectWithinUptoCard

/-- THE SECOND FORM's CARD OF 'enclavelaw11.EffectSwaps'. -/
def effectSwapsUptoCard : Claim7 := { stood := { row := effectSwapsUptoRow, standIns := [], harness := (true, "bc8f994a07aaedc4b5efe4e13a9a982ec18a78398abc6ff1c6e41b4c2b84c4d6"), looks := false }, kinds := [], alts := [], laidByText := true, laidKinds := [.data, .data, .data], laidTests := true, laidLooks := .later }
def EffectSwapsUptoCardSaid : Prop := Claim7.holds Tryd.pinned (.plain (OpenSpec.upto effectSwapsSpec)) effectSwapsUptoCard

/-- THE SECOND FORM's CARD OF 'enclavelaw11.EffectParts'. -/
def effectPartsUptoCard : Claim7 := { stood := { row := effectPartsUptoRow, standIns := [], harness := (true, "bc8f994a07aaedc4b5efe4e13a9a982ec18a78398abc6ff1c6e41b4c2b84c4d6"), looks := false }, kinds := [], alts := [], laidByText := true, laidKinds := [.data, .data, .data], laidTests := true, laidLooks := .later }
def EffectPartsUptoCardSaid : Prop := Claim7.holds Tryd.pinned (.plain (OpenSpec.upto effectPartsSpec)) effectPartsUptoCard
end Rows
end Go.Proofs.YtggabjmfdnfckaaDoor
