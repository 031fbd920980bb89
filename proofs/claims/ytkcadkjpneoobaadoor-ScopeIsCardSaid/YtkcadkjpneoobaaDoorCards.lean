/-
  DERIVED. GIVEN WITH THE SEED: THE CARDS: each row of YtkcadkjpneoobaaDoorRows.lean that lists a variable, with what it lists TIED to the program's text (the seventh form; the later family's looks); each row that meets fmt, with fmt's text TOLD by the authors' own Lean function (tested against real Go, not proved from fmt's source: count such statements apart). THE CARD IS WHAT COUNTS. Prove the row's statement (the work); the ties are given (YtkcadkjpneoobaaDoorTie.lean); close each card by the builder's one call (the guide's Derived/Test/ToyasCard.lean, 'card_holds'). Laid BY PROGRAM, IN A SANDBOX (cutbox-door.mjs). By AI agents, Wed Nov 11 2026. No macro, syntax, notation, axiom, sorry.
-/
import Derived.Test.YtkcadkjpneoobaaDoorRows
import GoSem.ClaimSeven
namespace Go.Proofs.YtkcadkjpneoobaaDoor
namespace Rows

/-- THE TIED CARD OF 'enclavelaw07.ScopeIs'. -/
def scopeIsCard : Claim7 := { stood := { row := scopeIsRow, standIns := [], harness := (true, "e95b7f7080faa1ad3bcbf02ae6fba56ec2f58c506658bf0272e4e12f553eaed0"), looks := false }, kinds := [], alts := [], laidByText := true, laidKinds := [.data], laidTests := true, laidLooks := .later }
def ScopeIsCardSaid : Prop := Claim7.holds Tryd.pinned (.plain (OpenSpec.ofChange scopeIsSpec)) scopeIsCard

/-- THE TIED CARD OF 'enclavelaw07.ScopeNames'. -/
def scopeNamesCard : Claim7 := { stood := { row := scopeNamesRow, standIns := [], harness := (true, "e95b7f7080faa1ad3bcbf02ae6fba56ec2f58c506658bf0272e4e12f553eaed0"), looks := false }, kinds := [], alts := [], laidByText := true, laidKinds := [.data], laidTests := true, laidLooks := .later }
def ScopeNamesCardSaid : Prop := Claim7.holds Tryd.pinned (.plain (OpenSpec.ofChange scopeNamesSpec)) scopeNamesCard

/-- THE TIED CARD OF 'enclavelaw07.ScopeClosed'. -/
def scopeClosedCard : Claim7 := { stood := { row := scopeClosedRow, standIns := [], harness := (true, "e95b7f7080faa1ad3bcbf02ae6fba56ec2f58c506658bf0272e4e12f553eaed0"), looks := false }, kinds := [], alts := [], laidByText := true, laidKinds := [.data], laidTests := true, laidLooks := .later }
def ScopeClosedCardSaid : Prop := Claim7.holds Tryd.pinned (.plain (OpenSpec.ofChange scopeClosedSpec)) scopeClosedCard

/-- THE TIED CARD OF 'enclavelaw07.ScopeBinds'. -/
def scopeBindsCard : Claim7 := { stood := { row := scopeBindsRow, standIns := [], harness := (true, "e95b7f7080faa1ad3bcbf02ae6fba56ec2f58c506658bf0272e4e12f553eaed0"), looks := false }, kinds := [], alts := [], laidByText := true, laidKinds := [.data], laidTests := true, laidLooks := .later }
def ScopeBindsCardSaid : Prop := Claim7.holds Tryd.pinned (.plain (OpenSpec.ofChange scopeBindsSpec)) scopeBindsCard

/-- THE TIED CARD OF 'enclavelaw07.ScopeTogether'. -/
def scopeTogetherCard : Claim7 := { stood := { row := scopeTogetherRow, standIns := [], harness := (true, "e95b7f7080faa1ad3bcbf02ae6fba56ec2f58c506658bf0272e4e12f553eaed0"), looks := false }, kinds := [], alts := [], laidByText := true, laidKinds := [.data], laidTests := true, laidLooks := .later }
def ScopeTogetherCardSaid : Prop := Claim7.holds Tryd.pinned (.plain (OpenSpec.ofChange scopeTogetherSpec)) scopeTogetherCard

/-- THE SECOND FORM's CARD OF 'enclavelaw07.ScopeIs'. -/
def scopeIsUptoCard : Claim7 := { stood := { row := scopeIsUptoRow, standIns := [], harness := (true, "e95b7f7080faa1ad3bcbf02ae6fba56ec2f58c506658bf0272e4e12f553eaed0"), looks := false }, kinds := [], alts := [], laidByText := true, laidKinds := [.data], laidTests := true, laidLooks := .later }
def ScopeIsUptoCardSaid : Prop := Claim7.holds Tryd.pinned (.plain (OpenSpec.upto scopeIsSpec)) scopeIsUptoCard

/-- THE SECOND FORM's CARD OF 'enclavelaw07.ScopeNames'. -/
def scopeNamesUptoCard : Claim7 := { stood := { row := scopeNamesUptoRow, standIns := [], harness := (true, "e95b7f7080faa1ad3bcbf02ae6fba56ec2f58c506658bf0272e4e12f553eaed0"), looks := false }, kinds := [], alts := [], laidByText := true, laidKinds := [.data], laidTests := true, laidLooks := .later }
def ScopeNamesUptoCardSaid : Prop := Claim7.holds Tryd.pinned (.plain (OpenSpec.upto scopeNamesSpec)) scopeNamesUptoCard

/-- THE SECOND FORM's CARD OF 'enclavelaw07.ScopeClosed'. -/
def scopeClosedUptoCard : Claim7 := { stood := { row := scopeClosedUptoRow, standIns := [], harness := (true, "e95b7f7080faa1ad3bcbf02ae6fba56ec2f58c506658bf0272e4e12f553eaed0"), looks := false }, kinds := [], alts := [], laidByText := true, laidKinds := [.data], laidTests := true, laidLooks := .later }
def ScopeClosedUptoCardSaid : Prop := Claim7.holds Tryd.pinned (.plain (OpenSpec.upto scopeClosedSpec)) scopeClosedUptoCard

/-- THE SECOND FORM's CARD OF 'enclavelaw07.ScopeBinds'. -/
def scopeBindsUptoCard : Claim7 := { stood := { row := scopeBindsUptoRow, standIns := [], harness := (true, "e95b7f7080faa1ad3bcbf02ae6fba56ec2f58c506658bf0272e4e12f553eaed0"), looks := false }, kinds := [], alts := [], laidByText := true, laidKinds := [.data], laidTests := true, laidLooks := .later }
def ScopeBindsUptoCardSaid : Prop := Claim7.holds Tryd.pinned (.plain (OpenSpec.upto scopeBindsSpec)) scopeBindsUptoCard

/-- THE SECOND FORM's CARD OF 'enclavelaw07.ScopeTogether'. -/
def scopeTogetherUptoCard : Claim7 := { stood := { row := scopeTogetherUptoRow, standIns := [], harness := (true, "e95b7f7080faa1ad3bcbf02ae6fba56ec2f58c506658bf0272e4e12f553eaed0"), looks := false }, kinds := [], alts := [], laidByText := true, laidKinds := [.data], laidTests := true, laidLooks := .later }
def ScopeTogetherUptoCardSaid : Prop := Claim7.holds Tryd.pinned (.plain (OpenSpec.upto scopeTogetherSpec)) scopeTogetherUptoCard
end Rows
end Go.Proofs.YtkcadkjpneoobaaDoor
