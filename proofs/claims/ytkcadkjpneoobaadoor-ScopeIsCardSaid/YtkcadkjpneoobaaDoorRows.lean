/-
  NARROWER THAN 'FOR EVERY INPUT', by the rows' own cells (each row's printed sentence says how): ScopeIs: loops, laid · ScopeNames: loops, laid · ScopeClosed: loops, laid · ScopeBinds: loops, laid · ScopeTogether: loops, laid.
  DERIVED. THE GIVEN ROWS OF THIS SEAT. 5 by the template 'for every input the law returns true; each argument reads behind the call as it read before'; 0 by the template 'total and deterministic' (their statements: YtkcadkjpneoobaaDoorTotals.lean).
  GIVEN WITH THE SEED: the statements are not yours to turn. If you find one false, say at which input.
  Laid BY PROGRAM, IN A SANDBOX (cutbox-rows.mjs): the forced cells as the released guide's own fill.sh prints them over the translation 35b4648c6a24cf40… (all of the seat's roots in one cut). By AI agents, Wed Nov 11 2026. No macro, syntax, notation, axiom, sorry.
-/
import Derived.Test.YtkcadkjpneoobaaDoorChecked
import GoSem.Claim
import GoSem.ClaimJoined
import GoSem.ClaimMapViews
import Derived.JoinedTies
import Derived.KernelRfl
namespace Go.Proofs.YtkcadkjpneoobaaDoor
/- THE CELL 'sum', in the pinned program and in every row, IS THE sha256 OF THE DUMP (.gsa) THAT YtkcadkjpneoobaaDoorProg.lean LOADS. Nothing in Lean hashes anything: it is a label: what it is worth is what the hold of that sum in a sandbox is worth. -/
noncomputable def Tryd.pinned : Pinned := { name := "ytkcadkjpneoobaadoor", sum := "35b4648c6a24cf4033bfe554a83a332c3df4a1171c5b7ffcf2739e632bfbe0dc", checked := Tryd.checked }
namespace Rows
def none {H : Type} : Left H := { results := [], args := [] }

/- WHAT THE LISTED PACKAGE-LEVEL VARIABLES READ AS WHEN THE CALL BEGINS. Each datum BY PROGRAM (the guide's laid-datum.mjs) off the statement by which the dump's own 'gosem.cut.vars' lays the variable. In a bare row this is a premise. The card (YtkcadkjpneoobaaDoorCards.lean) ties it to the program's text. -/
def laid_enclave_words_keywords {H : Type} : DataW H := .agg [.lit (.string [108, 101, 116]), .lit (.string [108, 101, 116, 114, 101, 99]), .lit (.string [105, 110]), .lit (.string [102, 110]), .lit (.string [105, 102]), .lit (.string [116, 104, 101, 110]), .lit (.string [101, 108, 115, 101]), .lit (.string [114, 97, 105, 115, 101]), .lit (.string [116, 114, 121]), .lit (.string [119, 105, 116, 104]), .lit (.string [114, 101, 102]), .lit (.string [102, 115, 116]), .lit (.string [115, 110, 100]), .lit (.string [101, 120, 110])]

/-- 'enclavelaw07.ScopeIs': WHATEVER THE INPUT: true; the input reads as it did. -/
def scopeIsSpec : ChangeSpec := { name := "scopeIs", fn := fun _ => fun
  | [d] => { results := [.lit (.bool true)], args := [d] }
  | _ => none }
def scopeIsRow : OpenClaim := { program := "ytkcadkjpneoobaadoor", sum := "35b4648c6a24cf4033bfe554a83a332c3df4a1171c5b7ffcf2739e632bfbe0dc", func := "enclave/enclavelaw07.ScopeIs", spec := "scopeIs", inPlace := ["internal/bytealg.IndexByteString"], unfollowed := true, recurses := true, named := ["enclave/words.keywords"], loops := true, apart := false, laid := [("enclave/words.keywords", laid_enclave_words_keywords)] }
def ScopeIsSaid : Prop := scopeIsRow.holds Tryd.pinned (OpenSpec.ofChange scopeIsSpec)

/-- ITS FALSE NEIGHBOUR: 'it returns false'. Refute it at one input. -/
def scopeIsWrong : ChangeSpec := { name := "scopeIs", fn := fun _ => fun
  | [d] => { results := [.lit (.bool false)], args := [d] }
  | _ => none }
def ScopeIsWrongFalsely : Prop := scopeIsRow.holds Tryd.pinned (OpenSpec.ofChange scopeIsWrong)

/-- 'enclavelaw07.ScopeNames': WHATEVER THE INPUT: true; the input reads as it did. -/
def scopeNamesSpec : ChangeSpec := { name := "scopeNames", fn := fun _ => fun
  | [d] => { results := [.lit (.bool true)], args := [d] }
  | _ => none }
def scopeNamesRow : OpenClaim := { program := "ytkcadkjpneoobaadoor", sum := "35b4648c6a24cf4033bfe554a83a332c3df4a1171c5b7ffcf2739e632bfbe0dc", func := "enclave/enclavelaw07.ScopeNames", spec := "scopeNames", inPlace := ["internal/bytealg.IndexByteString"], unfollowed := true, recurses := true, named := ["enclave/words.keywords"], loops := true, apart := false, laid := [("enclave/words.keywords", laid_enclave_words_keywords)] }
def ScopeNamesSaid : Prop := scopeNamesRow.holds Tryd.pinned (OpenSpec.ofChange scopeNamesSpec)

/-- ITS FALSE NEIGHBOUR: 'it returns false'. Refute it at one input. -/
def scopeNamesWrong : ChangeSpec := { name := "scopeNames", fn := fun _ => fun
  | [d] => { results := [.lit (.bool false)], args := [d] }
  | _ => none }
def ScopeNamesWrongFalsely : Prop := scopeNamesRow.holds Tryd.pinned (OpenSpec.ofChange scopeNamesWrong)

/-- 'enclavelaw07.ScopeClosed': WHATEVER THE INPUT: true; the input reads as it did. -/
def scopeClosedSpec : ChangeSpec := { name := "scopeClosed", fn := fun _ => fun
  | [d] => { results := [.lit (.bool true)], args := [d] }
  | _ => none }
def scopeClosedRow : OpenClaim := { program := "ytkcadkjpneoobaadoor", sum := "35b4648c6a24cf4033bfe554a83a332c3df4a1171c5b7ffcf2739e632bfbe0dc", func := "enclave/enclavelaw07.ScopeClosed", spec := "scopeClosed", inPlace := ["internal/bytealg.IndexByteString"], unfollowed := true, recurses := true, named := ["enclave/words.keywords"], loops := true, apart := false, laid := [("enclave/words.keywords", laid_enclave_words_keywords)] }
def ScopeClosedSaid : Prop := scopeClosedRow.holds Tryd.pinned (OpenSpec.ofChange scopeClosedSpec)

/-- ITS FALSE NEIGHBOUR: 'it returns false'. Refute it at one input. -/
def scopeClosedWrong : ChangeSpec := { name := "scopeClosed", fn := fun _ => fun
  | [d] => { results := [.lit (.bool false)], args := [d] }
  | _ => none }
def ScopeClosedWrongFalsely : Prop := scopeClosedRow.holds Tryd.pinned (OpenSpec.ofChange scopeClosedWrong)

/-- 'enclavelaw07.ScopeBinds': WHATEVER THE INPUT: true; the input reads as it did. -/
def scopeBindsSpec : ChangeSpec := { name := "scopeBinds", fn := fun _ => fun
  | [d1, d2] => { results := [.lit (.bool true)], args := [d1, d2] }
  | _ => none }
def scopeBindsRow : OpenClaim := { program := "ytkcadkjpneoobaadoor", sum := "35b4648c6a24cf4033bfe554a83a332c3df4a1171c5b7ffcf2739e632bfbe0dc", func := "enclave/enclavelaw07.ScopeBinds", spec := "scopeBinds", inPlace := ["internal/bytealg.IndexByteString"], unfollowed := true, recurses := true, named := ["enclave/words.keywords"], loops := true, apart := false, laid := [("enclave/words.keywords", laid_enclave_words_keywords)] }
def ScopeBindsSaid : Prop := scopeBindsRow.holds Tryd.pinned (OpenSpec.ofChange scopeBindsSpec)

/-- ITS FALSE NEIGHBOUR: 'it returns false'. Refute it at one input. -/
def scopeBindsWrong : ChangeSpec := { name := "scopeBinds", fn := fun _ => fun
  | [d1, d2] => { results := [.lit (.bool false)], args := [d1, d2] }
  | _ => none }
def ScopeBindsWrongFalsely : Prop := scopeBindsRow.holds Tryd.pinned (OpenSpec.ofChange scopeBindsWrong)

/-- 'enclavelaw07.ScopeTogether': WHATEVER THE INPUT: true; the input reads as it did. -/
def scopeTogetherSpec : ChangeSpec := { name := "scopeTogether", fn := fun _ => fun
  | [d1, d2] => { results := [.lit (.bool true)], args := [d1, d2] }
  | _ => none }
def scopeTogetherRow : OpenClaim := { program := "ytkcadkjpneoobaadoor", sum := "35b4648c6a24cf4033bfe554a83a332c3df4a1171c5b7ffcf2739e632bfbe0dc", func := "enclave/enclavelaw07.ScopeTogether", spec := "scopeTogether", inPlace := ["internal/bytealg.IndexByteString"], unfollowed := true, recurses := true, named := ["enclave/words.keywords"], loops := true, apart := false, laid := [("enclave/words.keywords", laid_enclave_words_keywords)] }
def ScopeTogetherSaid : Prop := scopeTogetherRow.holds Tryd.pinned (OpenSpec.ofChange scopeTogetherSpec)

/-- ITS FALSE NEIGHBOUR: 'it returns false'. Refute it at one input. -/
def scopeTogetherWrong : ChangeSpec := { name := "scopeTogether", fn := fun _ => fun
  | [d1, d2] => { results := [.lit (.bool false)], args := [d1, d2] }
  | _ => none }
def ScopeTogetherWrongFalsely : Prop := scopeTogetherRow.holds Tryd.pinned (OpenSpec.ofChange scopeTogetherWrong)

/- THE SECOND FORM. 'bulk': how many values and letters a reading holds, each counted each time it is reached (what is shared counts as often as it is met; a slice's spare places count too). A statement '..UptoSaid' is the law's where the arguments, and the package variables that the reading takes, are together of bulk at most 1048576: NARROWER than '..Said'. Prove '..Said' where nothing that the law and all that it calls make is longer than what came in: it says more and counts as full. Else prove '..UptoSaid'. A law counts once. -/
mutual
def uptoBulk {H : Type} : DataW H → Nat
  | .lit (.string bytes) => bytes.length + 1
  | .lit _ => 1
  | .nil => 1
  | .ptr d => uptoBulk d + 1
  | .slice elems spare => uptoBulkAll elems + uptoBulkAll spare + 1
  | .agg parts => uptoBulkAll parts + 1
  | .iface _ d => uptoBulk d + 1
  | .map entries => uptoBulkEntries entries + 1
  | .held _ => 1
def uptoBulkAll {H : Type} : List (DataW H) → Nat
  | [] => 0
  | d :: r => uptoBulk d + uptoBulkAll r
def uptoBulkEntries {H : Type} : List (Lit × DataW H) → Nat
  | [] => 0
  | x :: r => uptoBulkEntry x + uptoBulkEntries r
def uptoBulkEntry {H : Type} : Lit × DataW H → Nat
  | (.string bytes, d) => bytes.length + uptoBulk d + 1
  | (_, d) => uptoBulk d + 1
 end
def uptoSmall : (H : Type) → List (DataW H) → Bool := fun _ ds => decide (uptoBulkAll ds ≤ 1048576)
def OpenSpec.upto (s : _root_.Go.ChangeSpec) : _root_.Go.OpenSpec := { _root_.Go.OpenSpec.ofChange s with cond := some uptoSmall }

/-- 'enclavelaw07.ScopeIs', WHERE WHAT IT READS IS OF BULK AT MOST 1048576: true; the input reads as it did. -/
def scopeIsUptoRow : OpenClaim := { program := "ytkcadkjpneoobaadoor", sum := "35b4648c6a24cf4033bfe554a83a332c3df4a1171c5b7ffcf2739e632bfbe0dc", func := "enclave/enclavelaw07.ScopeIs", spec := "scopeIs", inPlace := ["internal/bytealg.IndexByteString"], unfollowed := true, recurses := true, named := ["enclave/words.keywords"], loops := true, apart := false, laid := [("enclave/words.keywords", laid_enclave_words_keywords)], narrowed := true }
def ScopeIsUptoSaid : Prop := scopeIsUptoRow.holds Tryd.pinned (OpenSpec.upto scopeIsSpec)

/-- 'enclavelaw07.ScopeNames', WHERE WHAT IT READS IS OF BULK AT MOST 1048576: true; the input reads as it did. -/
def scopeNamesUptoRow : OpenClaim := { program := "ytkcadkjpneoobaadoor", sum := "35b4648c6a24cf4033bfe554a83a332c3df4a1171c5b7ffcf2739e632bfbe0dc", func := "enclave/enclavelaw07.ScopeNames", spec := "scopeNames", inPlace := ["internal/bytealg.IndexByteString"], unfollowed := true, recurses := true, named := ["enclave/words.keywords"], loops := true, apart := false, laid := [("enclave/words.keywords", laid_enclave_words_keywords)], narrowed := true }
def ScopeNamesUptoSaid : Prop := scopeNamesUptoRow.holds Tryd.pinned (OpenSpec.upto scopeNamesSpec)

/-- 'enclavelaw07.ScopeClosed', WHERE WHAT IT READS IS OF BULK AT MOST 1048576: true; the input reads as it did. -/
def scopeClosedUptoRow : OpenClaim := { program := "ytkcadkjpneoobaadoor", sum := "35b4648c6a24cf4033bfe554a83a332c3df4a1171c5b7ffcf2739e632bfbe0dc", func := "enclave/enclavelaw07.ScopeClosed", spec := "scopeClosed", inPlace := ["internal/bytealg.IndexByteString"], unfollowed := true, recurses := true, named := ["enclave/words.keywords"], loops := true, apart := false, laid := [("enclave/words.keywords", laid_enclave_words_keywords)], narrowed := true }
def ScopeClosedUptoSaid : Prop := scopeClosedUptoRow.holds Tryd.pinned (OpenSpec.upto scopeClosedSpec)

/-- 'enclavelaw07.ScopeBinds', WHERE WHAT IT READS IS OF BULK AT MOST 1048576: true; the input reads as it did. -/
def scopeBindsUptoRow : OpenClaim := { program := "ytkcadkjpneoobaadoor", sum := "35b4648c6a24cf4033bfe554a83a332c3df4a1171c5b7ffcf2739e632bfbe0dc", func := "enclave/enclavelaw07.ScopeBinds", spec := "scopeBinds", inPlace := ["internal/bytealg.IndexByteString"], unfollowed := true, recurses := true, named := ["enclave/words.keywords"], loops := true, apart := false, laid := [("enclave/words.keywords", laid_enclave_words_keywords)], narrowed := true }
def ScopeBindsUptoSaid : Prop := scopeBindsUptoRow.holds Tryd.pinned (OpenSpec.upto scopeBindsSpec)

/-- 'enclavelaw07.ScopeTogether', WHERE WHAT IT READS IS OF BULK AT MOST 1048576: true; the input reads as it did. -/
def scopeTogetherUptoRow : OpenClaim := { program := "ytkcadkjpneoobaadoor", sum := "35b4648c6a24cf4033bfe554a83a332c3df4a1171c5b7ffcf2739e632bfbe0dc", func := "enclave/enclavelaw07.ScopeTogether", spec := "scopeTogether", inPlace := ["internal/bytealg.IndexByteString"], unfollowed := true, recurses := true, named := ["enclave/words.keywords"], loops := true, apart := false, laid := [("enclave/words.keywords", laid_enclave_words_keywords)], narrowed := true }
def ScopeTogetherUptoSaid : Prop := scopeTogetherUptoRow.holds Tryd.pinned (OpenSpec.upto scopeTogetherSpec)

end Rows
end Go.Proofs.YtkcadkjpneoobaaDoor
