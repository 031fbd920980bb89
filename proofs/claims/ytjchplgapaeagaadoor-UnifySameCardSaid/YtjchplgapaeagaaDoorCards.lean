/-
  DERIVED. GIVEN WITH THE SEED: THE CARDS: each row of YtjchplgapaeagaaDoorRows.lean that lists a variable, with what it lists TIED to the program's text (the seventh form; the later family's looks); each row that meets fmt, with fmt's text TOLD by the authors' own Lean function (tested against real Go, not proved from fmt's source: count such statements apart). THE CARD IS WHAT COUNTS. Prove the row's statement (the work); the ties are given (YtjchplgapaeagaaDoorTie.lean); close each card by the builder's one call (the guide's Derived/Test/ToyasCard.lean, 'card_holds'). Laid BY PROGRAM, IN A SANDBOX (cutbox-door.mjs). By AI agents, Wed Nov 11 2026. No macro, syntax, notation, axiom, sorry.
-/
import Derived.Test.YtjchplgapaeagaaDoorRows
import GoSem.ClaimSeven
namespace Go.Proofs.YtjchplgapaeagaaDoor
namespace Rows

/-- THE TIED CARD OF 'enclavelaw09.UnifyPlays'. -/
def unifyPlaysCard : Claim7 := { stood := { row := unifyPlaysRow, standIns := [], harness := (true, "3f8a003ca36a60535c0ffd27fae5603047b678618502088725943764bf37bfe8"), looks := false }, kinds := [], alts := [], laidByText := true, laidKinds := [.data], laidTests := true, laidLooks := .later }
def UnifyPlaysCardSaid : Prop := Claim7.holds Tryd.pinned (.plain (OpenSpec.ofChange unifyPlaysSpec)) unifyPlaysCard

/-- THE TIED CARD OF 'enclavelaw09.UnifySame'. -/
def unifySameCard : Claim7 := { stood := { row := unifySameRow, standIns := [], harness := (true, "3f8a003ca36a60535c0ffd27fae5603047b678618502088725943764bf37bfe8"), looks := false }, kinds := [], alts := [], laidByText := true, laidKinds := [.data], laidTests := true, laidLooks := .later }
def UnifySameCardSaid : Prop := Claim7.holds Tryd.pinned (.plain (OpenSpec.ofChange unifySameSpec)) unifySameCard

/-- THE TIED CARD OF 'enclavelaw09.UnifyTurns'. -/
def unifyTurnsCard : Claim7 := { stood := { row := unifyTurnsRow, standIns := [], harness := (true, "3f8a003ca36a60535c0ffd27fae5603047b678618502088725943764bf37bfe8"), looks := false }, kinds := [], alts := [], laidByText := true, laidKinds := [.data], laidTests := true, laidLooks := .later }
def UnifyTurnsCardSaid : Prop := Claim7.holds Tryd.pinned (.plain (OpenSpec.ofChange unifyTurnsSpec)) unifyTurnsCard

/-- THE TIED CARD OF 'enclavelaw09.UnifyGrows'. -/
def unifyGrowsCard : Claim7 := { stood := { row := unifyGrowsRow, standIns := [], harness := (true, "3f8a003ca36a60535c0ffd27fae5603047b678618502088725943764bf37bfe8"), looks := false }, kinds := [], alts := [], laidByText := true, laidKinds := [.data], laidTests := true, laidLooks := .later }
def UnifyGrowsCardSaid : Prop := Claim7.holds Tryd.pinned (.plain (OpenSpec.ofChange unifyGrowsSpec)) unifyGrowsCard

/-- THE TIED CARD OF 'enclavelaw09.UnifyNil'. -/
def unifyNilCard : Claim7 := { stood := { row := unifyNilRow, standIns := [], harness := (true, "3f8a003ca36a60535c0ffd27fae5603047b678618502088725943764bf37bfe8"), looks := false }, kinds := [], alts := [], laidByText := true, laidKinds := [.data], laidTests := true, laidLooks := .later }
def UnifyNilCardSaid : Prop := Claim7.holds Tryd.pinned (.plain (OpenSpec.ofChange unifyNilSpec)) unifyNilCard

/-- THE TIED CARD OF 'enclavelaw09.UnifyAgain'. -/
def unifyAgainCard : Claim7 := { stood := { row := unifyAgainRow, standIns := [], harness := (true, "3f8a003ca36a60535c0ffd27fae5603047b678618502088725943764bf37bfe8"), looks := false }, kinds := [], alts := [], laidByText := true, laidKinds := [.data], laidTests := true, laidLooks := .later }
def UnifyAgainCardSaid : Prop := Claim7.holds Tryd.pinned (.plain (OpenSpec.ofChange unifyAgainSpec)) unifyAgainCard

/-- THE SECOND FORM's CARD OF 'enclavelaw09.UnifyPlays'. -/
def unifyPlaysUptoCard : Claim7 := { stood := { row := unifyPlaysUptoRow, standIns := [], harness := (true, "3f8a003ca36a60535c0ffd27fae5603047b678618502088725943764bf37bfe8"), looks := false }, kinds := [], alts := [], laidByText := true, laidKinds := [.data], laidTests := true, laidLooks := .later }
def UnifyPlaysUptoCardSaid : Prop := Claim7.holds Tryd.pinned (.plain (OpenSpec.upto unifyPlaysSpec)) unifyPlaysUptoCard

/-- THE SECOND FORM's CARD OF 'enclavelaw09.UnifySame'. -/
def unifySameUptoCard : Claim7 := { stood := { row := unifySameUptoRow, standIns := [], harness := (true, "3f8a003ca36a60535c0ffd27fae5603047b678618502088725943764bf37bfe8"), looks := false }, kinds := [], alts := [], laidByText := true, laidKinds := [.data], laidTests := true, laidLooks := .later }
def UnifySameUptoCardSaid : Prop := Claim7.holds Tryd.pinned (.plain (OpenSpec.upto unifySameSpec)) unifySameUptoCard

/-- THE SECOND FORM's CARD OF 'enclavelaw09.UnifyTurns'. -/
def unifyTurnsUptoCard : Claim7 := { stood := { row := unifyTurnsUptoRow, standIns := [], harness := (true, "3f8a003ca36a60535c0ffd27fae5603047b678618502088725943764bf37bfe8"), looks := false }, kinds := [], alts := [], laidByText := true, laidKinds := [.data], laidTests := true, laidLooks := .later }
def UnifyTurnsUptoCardSaid : Prop := Claim7.holds Tryd.pinned (.plain (OpenSpec.upto unifyTurnsSpec)) unifyTurnsUptoCard

/-- THE SECOND FORM's CARD OF 'enclavelaw09.UnifyGrows'. -/
def unifyGrowsUptoCard : Claim7 := { stood := { row := unifyGrowsUptoRow, standIns := [], harness := (true, "3f8a003ca36a60535c0ffd27fae5603047b678618502088725943764bf37bfe8"), looks := false }, kinds := [], alts := [], laidByText := true, laidKinds := [.data], laidTests := true, laidLooks := .later }
def UnifyGrowsUptoCardSaid : Prop := Claim7.holds Tryd.pinned (.plain (OpenSpec.upto unifyGrowsSpec)) unifyGrowsUptoCard

/-- THE SECOND FORM's CARD OF 'enclavelaw09.UnifyNil'. -/
def unifyNilUptoCard : Claim7 := { stood := { row := unifyNilUptoRow, standIns := [], harness := (true, "3f8a003ca36a60535c0ffd27fae5603047b678618502088725943764bf37bfe8"), looks := false }, kinds := [], alts := [], laidByText := true, laidKinds := [.data], laidTests := true, laidLooks := .later }
def UnifyNilUptoCardSaid : Prop := Claim7.holds Tryd.pinned (.plain (OpenSpec.upto unifyNilSpec)) unifyNilUptoCard

/-- THE SECOND FORM's CARD OF 'enclavelaw09.UnifyAgain'. -/
def unifyAgainUptoCard : Claim7 := { stood := { row := unifyAgainUptoRow, standIns := [], harness := (true, "3f8a003ca36a60535c0ffd27fae5603047b678618502088725943764bf37bfe8"), looks := false }, kinds := [], alts := [], laidByText := true, laidKinds := [.data], laidTests := true, laidLooks := .later }
def UnifyAgainUptoCardSaid : Prop := Claim7.holds Tryd.pinned (.plain (OpenSpec.upto unifyAgainSpec)) unifyAgainUptoCard
end Rows
end Go.Proofs.YtjchplgapaeagaaDoor
