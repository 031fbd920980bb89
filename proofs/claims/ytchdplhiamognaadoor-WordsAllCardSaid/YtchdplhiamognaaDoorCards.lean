/-
  DERIVED. GIVEN WITH THE SEED: THE CARDS: each row of YtchdplhiamognaaDoorRows.lean that lists a variable, with what it lists TIED to the program's text (the seventh form; the later family's looks); each row that meets fmt, with fmt's text TOLD by the authors' own Lean function (tested against real Go, not proved from fmt's source: count such statements apart). THE CARD IS WHAT COUNTS. Prove the row's statement (the work); the ties are given (YtchdplhiamognaaDoorTie.lean); close each card by the builder's one call (the guide's Derived/Test/ToyasCard.lean, 'card_holds'). Laid BY PROGRAM, IN A SANDBOX (cutbox-door.mjs). By AI agents, Wed Nov 11 2026. No macro, syntax, notation, axiom, sorry.
-/
import Derived.Test.YtchdplhiamognaaDoorRows
import GoSem.ClaimSeven
namespace Go.Proofs.YtchdplhiamognaaDoor
namespace Rows

/-- THE TIED CARD OF 'enclavelaw02.WordsIs'. -/
def wordsIsCard : Claim7 := { stood := { row := wordsIsRow, standIns := [], harness := (true, "87a19b2f1f4ebe1d503350fb554ae5bc8986c8ec03a84a3dd68b141848206b0a"), looks := true }, kinds := [], alts := [], laidByText := true, laidKinds := [.data, .data, .data, .sentinel, .sentinel, .data], laidTests := true, laidLooks := .later }
def WordsIsCardSaid : Prop := Claim7.holds Tryd.pinned (.plain (OpenSpec.ofChange wordsIsSpec)) wordsIsCard

/-- THE TIED CARD OF 'enclavelaw02.WordsAll'. -/
def wordsAllCard : Claim7 := { stood := { row := wordsAllRow, standIns := [], harness := (true, "87a19b2f1f4ebe1d503350fb554ae5bc8986c8ec03a84a3dd68b141848206b0a"), looks := true }, kinds := [], alts := [], laidByText := true, laidKinds := [.data], laidTests := true, laidLooks := .later }
def WordsAllCardSaid : Prop := Claim7.holds Tryd.pinned (.plain (OpenSpec.ofChange wordsAllSpec)) wordsAllCard

/-- THE TIED CARD OF 'enclavelaw02.WordsBack'. -/
def wordsBackCard : Claim7 := { stood := { row := wordsBackRow, standIns := [], harness := (true, "87a19b2f1f4ebe1d503350fb554ae5bc8986c8ec03a84a3dd68b141848206b0a"), looks := true }, kinds := [], alts := [], laidByText := true, laidKinds := [.data, .data, .data, .sentinel, .sentinel, .data], laidTests := true, laidLooks := .later }
def WordsBackCardSaid : Prop := Claim7.holds Tryd.pinned (.plain (OpenSpec.ofChange wordsBackSpec)) wordsBackCard

/-- THE TIED CARD OF 'enclavelaw02.WordsApart'. -/
def wordsApartCard : Claim7 := { stood := { row := wordsApartRow, standIns := [], harness := (true, "87a19b2f1f4ebe1d503350fb554ae5bc8986c8ec03a84a3dd68b141848206b0a"), looks := true }, kinds := [], alts := [], laidByText := true, laidKinds := [.data, .data, .data, .sentinel, .sentinel, .data], laidTests := true, laidLooks := .later }
def WordsApartCardSaid : Prop := Claim7.holds Tryd.pinned (.plain (OpenSpec.ofChange wordsApartSpec)) wordsApartCard

/-- THE TIED CARD OF 'enclavelaw02.WordsLonger'. -/
def wordsLongerCard : Claim7 := { stood := { row := wordsLongerRow, standIns := [], harness := (true, "87a19b2f1f4ebe1d503350fb554ae5bc8986c8ec03a84a3dd68b141848206b0a"), looks := true }, kinds := [], alts := [], laidByText := true, laidKinds := [.data], laidTests := true, laidLooks := .later }
def WordsLongerCardSaid : Prop := Claim7.holds Tryd.pinned (.plain (OpenSpec.ofChange wordsLongerSpec)) wordsLongerCard

/-- THE SECOND FORM's CARD OF 'enclavelaw02.WordsIs'. -/
def wordsIsUptoCard : Claim7 := { stood := { row := wordsIsUptoRow, standIns := [], harness := (true, "87a19b2f1f4ebe1d503350fb554ae5bc8986c8ec03a84a3dd68b141848206b0a"), looks := true }, kinds := [], alts := [], laidByText := true, laidKinds := [.data, .data, .data, .sentinel, .sentinel, .data], laidTests := true, laidLooks := .later }
def WordsIsUptoCardSaid : Prop := Claim7.holds Tryd.pinned (.plain (OpenSpec.upto wordsIsSpec)) wordsIsUptoCard

/-- THE SECOND FORM's CARD OF 'enclavelaw02.WordsAll'. -/
def wordsAllUptoCard : Claim7 := { stood := { row := wordsAllUptoRow, standIns := [], harness := (true, "87a19b2f1f4ebe1d503350fb554ae5bc8986c8ec03a84a3dd68b141848206b0a"), looks := true }, kinds := [], alts := [], laidByText := true, laidKinds := [.data], laidTests := true, laidLooks := .later }
def WordsAllUptoCardSaid : Prop := Claim7.holds Tryd.pinned (.plain (OpenSpec.upto wordsAllSpec)) wordsAllUptoCard

/-- THE SECOND FORM's CARD OF 'enclavelaw02.WordsBack'. -/
def wordsBackUptoCard : Claim7 := { stood := { row := wordsBackUptoRow, standIns := [], harness := (true, "87a19b2f1f4ebe1d503350fb554ae5bc8986c8ec03a84a3dd68b141848206b0a"), looks := true }, kinds := [], alts := [], laidByText := true, laidKinds := [.data, .data, .data, .sentinel, .sentinel, .data], laidTests := true, laidLooks := .later }
def WordsBackUptoCardSaid : Prop := Claim7.holds Tryd.pinned (.plain (OpenSpec.upto wordsBackSpec)) wordsBackUptoCard

/-- THE SECOND FORM's CARD OF 'enclavelaw02.WordsApart'. -/
def wordsApartUptoCard : Claim7 := { stood := { row := wordsApartUptoRow, standIns := [], harness := (true, "87a19b2f1f4ebe1d503350fb554ae5bc8986c8ec03a84a3dd68b141848206b0a"), looks := true }, kinds := [], alts := [], laidByText := true, laidKinds := [.data, .data, .data, .sentinel, .sentinel, .data], laidTests := true, laidLooks := .later }
def WordsApartUptoCardSaid : Prop := Claim7.holds Tryd.pinned (.plain (OpenSpec.upto wordsApartSpec)) wordsApartUptoCard

/-- THE SECOND FORM's CARD OF 'enclavelaw02.WordsLonger'. -/
def wordsLongerUptoCard : Claim7 := { stood := { row := wordsLongerUptoRow, standIns := [], harness := (true, "87a19b2f1f4ebe1d503350fb554ae5bc8986c8ec03a84a3dd68b141848206b0a"), looks := true }, kinds := [], alts := [], laidByText := true, laidKinds := [.data], laidTests := true, laidLooks := .later }
def WordsLongerUptoCardSaid : Prop := Claim7.holds Tryd.pinned (.plain (OpenSpec.upto wordsLongerSpec)) wordsLongerUptoCard
end Rows
end Go.Proofs.YtchdplhiamognaaDoor
