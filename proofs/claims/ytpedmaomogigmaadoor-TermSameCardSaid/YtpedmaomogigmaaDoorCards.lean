/-
  DERIVED. GIVEN WITH THE SEED: THE CARDS: each row of YtpedmaomogigmaaDoorRows.lean that lists a variable, with what it lists TIED to the program's text (the seventh form; the later family's looks); each row that meets fmt, with fmt's text TOLD by the authors' own Lean function (tested against real Go, not proved from fmt's source: count such statements apart). THE CARD IS WHAT COUNTS. Prove the row's statement (the work); the ties are given (YtpedmaomogigmaaDoorTie.lean); close each card by the builder's one call (the guide's Derived/Test/ToyasCard.lean, 'card_holds'). Laid BY PROGRAM, IN A SANDBOX (cutbox-door.mjs). By AI agents, Wed Nov 11 2026. No macro, syntax, notation, axiom, sorry.
-/
import Derived.Test.YtpedmaomogigmaaDoorRows
import GoSem.ClaimSeven
namespace Go.Proofs.YtpedmaomogigmaaDoor
namespace Rows

/-- THE TIED CARD OF 'enclavelaw04.TermMays'. -/
def termMaysCard : Claim7 := { stood := { row := termMaysRow, standIns := [], harness := (true, "c9f20a43d2a53e8fd9b5f35eb9212619bc545a8e807a4c76fe68fecc1bc602ac"), looks := false }, kinds := [], alts := [], laidByText := true, laidKinds := [.data], laidTests := true, laidLooks := .later }
def TermMaysCardSaid : Prop := Claim7.holds Tryd.pinned (.plain (OpenSpec.ofChange termMaysSpec)) termMaysCard

/-- THE TIED CARD OF 'enclavelaw04.TermCounts'. -/
def termCountsCard : Claim7 := { stood := { row := termCountsRow, standIns := [], harness := (true, "c9f20a43d2a53e8fd9b5f35eb9212619bc545a8e807a4c76fe68fecc1bc602ac"), looks := false }, kinds := [], alts := [], laidByText := true, laidKinds := [.data], laidTests := true, laidLooks := .later }
def TermCountsCardSaid : Prop := Claim7.holds Tryd.pinned (.plain (OpenSpec.ofChange termCountsSpec)) termCountsCard

/-- THE TIED CARD OF 'enclavelaw04.TermSame'. -/
def termSameCard : Claim7 := { stood := { row := termSameRow, standIns := [], harness := (true, "c9f20a43d2a53e8fd9b5f35eb9212619bc545a8e807a4c76fe68fecc1bc602ac"), looks := false }, kinds := [], alts := [], laidByText := true, laidKinds := [.data], laidTests := true, laidLooks := .later }
def TermSameCardSaid : Prop := Claim7.holds Tryd.pinned (.plain (OpenSpec.ofChange termSameSpec)) termSameCard

/-- THE TIED CARD OF 'enclavelaw04.TermMany'. -/
def termManyCard : Claim7 := { stood := { row := termManyRow, standIns := [], harness := (true, "c9f20a43d2a53e8fd9b5f35eb9212619bc545a8e807a4c76fe68fecc1bc602ac"), looks := false }, kinds := [], alts := [], laidByText := true, laidKinds := [.data], laidTests := true, laidLooks := .later }
def TermManyCardSaid : Prop := Claim7.holds Tryd.pinned (.plain (OpenSpec.ofChange termManySpec)) termManyCard

/-- THE TIED CARD OF 'enclavelaw04.TermSums'. -/
def termSumsCard : Claim7 := { stood := { row := termSumsRow, standIns := [], harness := (true, "c9f20a43d2a53e8fd9b5f35eb9212619bc545a8e807a4c76fe68fecc1bc602ac"), looks := false }, kinds := [], alts := [], laidByText := true, laidKinds := [.data], laidTests := true, laidLooks := .later }
def TermSumsCardSaid : Prop := Claim7.holds Tryd.pinned (.plain (OpenSpec.ofChange termSumsSpec)) termSumsCard

/-- THE SECOND FORM's CARD OF 'enclavelaw04.TermMays'. -/
def termMaysUptoCard : Claim7 := { stood := { row := termMaysUptoRow, standIns := [], harness := (true, "c9f20a43d2a53e8fd9b5f35eb9212619bc545a8e807a4c76fe68fecc1bc602ac"), looks := false }, kinds := [], alts := [], laidByText := true, laidKinds := [.data], laidTests := true, laidLooks := .later }
def TermMaysUptoCardSaid : Prop := Claim7.holds Tryd.pinned (.plain (OpenSpec.upto termMaysSpec)) termMaysUptoCard

/-- THE SECOND FORM's CARD OF 'enclavelaw04.TermCounts'. -/
def termCountsUptoCard : Claim7 := { stood := { row := termCountsUptoRow, standIns := [], harness := (true, "c9f20a43d2a53e8fd9b5f35eb9212619bc545a8e807a4c76fe68fecc1bc602ac"), looks := false }, kinds := [], alts := [], laidByText := true, laidKinds := [.data], laidTests := true, laidLooks := .later }
def TermCountsUptoCardSaid : Prop := Claim7.holds Tryd.pinned (.plain (OpenSpec.upto termCountsSpec)) termCountsUptoCard

/-- THE SECOND FORM's CARD OF 'enclavelaw04.TermSame'. -/
def termSameUptoCard : Claim7 := { stood := { row := termSameUptoRow, standIns := [], harness := (true, "c9f20a43d2a53e8fd9b5f35eb9212619bc545a8e807a4c76fe68fecc1bc602ac"), looks := false }, kinds := [], alts := [], laidByText := true, laidKinds := [.data], laidTests := true, laidLooks := .later }
def TermSameUptoCardSaid : Prop := Claim7.holds Tryd.pinned (.plain (OpenSpec.upto termSameSpec)) termSameUptoCard

/-- THE SECOND FORM's CARD OF 'enclavelaw04.TermMany'. -/
def termManyUptoCard : Claim7 := { stood := { row := termManyUptoRow, standIns := [], harness := (true, "c9f20a43d2a53e8fd9b5f35eb9212619bc545a8e807a4c76fe68fecc1bc602ac"), looks := false }, kinds := [], alts := [], laidByText := true, laidKinds := [.data], laidTests := true, laidLooks := .later }
def TermManyUptoCardSaid : Prop := Claim7.holds Tryd.pinned (.plain (OpenSpec.upto termManySpec)) termManyUptoCard

/-- THE SECOND FORM's CARD OF 'enclavelaw04.TermSums'. -/
def termSumsUptoCard : Claim7 := { stood := { row := termSumsUptoRow, standIns := [], harness := (true, "c9f20a43d2a53e8fd9b5f35eb9212619bc545a8e807a4c76fe68fecc1bc602ac"), looks := false }, kinds := [], alts := [], laidByText := true, laidKinds := [.data], laidTests := true, laidLooks := .later }
def TermSumsUptoCardSaid : Prop := Claim7.holds Tryd.pinned (.plain (OpenSpec.upto termSumsSpec)) termSumsUptoCard
end Rows
end Go.Proofs.YtpedmaomogigmaaDoor
