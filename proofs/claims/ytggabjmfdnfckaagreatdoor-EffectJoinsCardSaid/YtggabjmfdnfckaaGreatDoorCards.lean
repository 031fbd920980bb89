/-
  DERIVED. GIVEN WITH THE SEED: THE CARDS: each row of YtggabjmfdnfckaaGreatDoorRows.lean that lists a variable, with what it lists TIED to the program's text (the seventh form; the later family's looks); each row that meets fmt, with fmt's text TOLD by the authors' own Lean function (tested against real Go, not proved from fmt's source: count such statements apart). THE CARD IS WHAT COUNTS. Prove the row's statement (the work); the ties are given (YtggabjmfdnfckaaGreatDoorTie.lean); close each card by the builder's one call (the guide's Derived/Test/ToyasCard.lean, 'card_holds'). Laid BY PROGRAM, IN A SANDBOX (cutbox-door.mjs). By AI agents, Wed Nov 11 2026. No macro, syntax, notation, axiom, sorry.
-/
import Derived.Test.YtggabjmfdnfckaaGreatDoorRows
import GoSem.ClaimSeven
namespace Go.Proofs.YtggabjmfdnfckaaGreatDoor
namespace Rows

/-- THE TIED CARD OF 'enclavelaw11.EffectJoins'. -/
def effectJoinsCard : Claim7 := { stood := { row := effectJoinsRow, standIns := [], harness := (true, "4e9796e39aa6d62ac6abfbc6e7163a1fcf36ec09e79e99ecf7b9245435525861"), looks := false }, kinds := [], alts := [], laidByText := true, laidKinds := [.data, .data, .data], laidTests := true, laidLooks := .later }
def EffectJoinsCardSaid : Prop := Claim7.holds Tryz.pinned (.plain (OpenSpec.ofChange effectJoinsSpec)) effectJoinsCard

/-- THE TIED CARD OF 'enclavelaw11.EffectDrops'. -/
def effectDropsCard : Claim7 := { stood := { row := effectDropsRow, standIns := [], harness := (true, "4e9796e39aa6d62ac6abfbc6e7163a1fcf36ec09e79e99ecf7b9245435525861"), looks := false }, kinds := [], alts := [], laidByText := true, laidKinds := [.data, .data, .data], laidTests := true, laidLooks := .later }
def EffectDropsCardSaid : Prop := Claim7.holds Tryz.pinned (.plain (OpenSpec.ofChange effectDropsSpec)) effectDropsCard

/-- THE SECOND FORM's CARD OF 'enclavelaw11.EffectJoins'. -/
def effectJoinsUptoCard : Claim7 := { stood := { row := effectJoinsUptoRow, standIns := [], harness := (true, "4e9796e39aa6d62ac6abfbc6e7163a1fcf36ec09e79e99ecf7b9245435525861"), looks := false }, kinds := [], alts := [], laidByText := true, laidKinds := [.data, .data, .data], laidTests := true, laidLooks := .later }
def EffectJoinsUptoCardSaid : Prop := Claim7.holds Tryz.pinned (.plain (OpenSpec.upto effectJoinsSpec)) effectJoinsUptoCard

/-- THE SECOND FORM's CARD OF 'enclavelaw11.EffectDrops'. -/
def effectDropsUptoCard : Claim7 := { stood := { row := effectDropsUptoRow, standIns := [], harness := (true, "4e9796e39aa6d62ac6abfbc6e7163a1fcf36ec09e79e99ecf7b9245435525861"), looks := false }, kinds := [], alts := [], laidByText := true, laidKinds := [.data, .data, .data], laidTests := true, laidLooks := .later }
def EffectDropsUptoCardSaid : Prop := Claim7.holds Tryz.pinned (.plain (OpenSpec.upto effectDropsSpec)) effectDropsUptoCard
end Rows
end Go.Proofs.YtggabjmfdnfckaaGreatDoor
