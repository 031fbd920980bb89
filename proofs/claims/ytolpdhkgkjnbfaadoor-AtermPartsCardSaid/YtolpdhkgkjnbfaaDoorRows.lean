/-
  NARROWER THAN 'FOR EVERY INPUT', by the rows' own cells (each row's printed sentence says how): AtermBinds: loops, laid · AtermErase: loops, laid · AtermParts: loops, laid.
  DERIVED. THE GIVEN ROWS OF THIS SEAT. 3 by the template 'for every input the law returns true; each argument reads behind the call as it read before'; 0 by the template 'total and deterministic' (their statements: YtolpdhkgkjnbfaaDoorTotals.lean).
  GIVEN WITH THE SEED: the statements are not yours to turn. If you find one false, say at which input.
  Laid BY PROGRAM, IN A SANDBOX (cutbox-rows.mjs): the forced cells as the released guide's own fill.sh prints them over the translation 877508964a2ac55f… (all of the seat's roots in one cut). By AI agents, Wed Nov 11 2026. No macro, syntax, notation, axiom, sorry.
-/
import Derived.Test.YtolpdhkgkjnbfaaDoorChecked
import GoSem.Claim
import GoSem.ClaimJoined
import GoSem.ClaimMapViews
import Derived.JoinedTies
import Derived.KernelRfl
namespace Go.Proofs.YtolpdhkgkjnbfaaDoor
/- THE CELL 'sum', in the pinned program and in every row, IS THE sha256 OF THE DUMP (.gsa) THAT YtolpdhkgkjnbfaaDoorProg.lean LOADS. Nothing in Lean hashes anything: it is a label: what it is worth is what the hold of that sum in a sandbox is worth. -/
noncomputable def Tryd.pinned : Pinned := { name := "ytolpdhkgkjnbfaadoor", sum := "877508964a2ac55f0aa2757a32b2b09f828d46d32880b81568553985be7bc51b", checked := Tryd.checked }
namespace Rows
def none {H : Type} : Left H := { results := [], args := [] }

/- WHAT THE LISTED PACKAGE-LEVEL VARIABLES READ AS WHEN THE CALL BEGINS. Each datum BY PROGRAM (the guide's laid-datum.mjs) off the statement by which the dump's own 'gosem.cut.vars' lays the variable. In a bare row this is a premise. The card (YtolpdhkgkjnbfaaDoorCards.lean) ties it to the program's text. -/
def laid_enclave_words_keywords {H : Type} : DataW H := .agg [.lit (.string [108, 101, 116]), .lit (.string [108, 101, 116, 114, 101, 99]), .lit (.string [105, 110]), .lit (.string [102, 110]), .lit (.string [105, 102]), .lit (.string [116, 104, 101, 110]), .lit (.string [101, 108, 115, 101]), .lit (.string [114, 97, 105, 115, 101]), .lit (.string [116, 114, 121]), .lit (.string [119, 105, 116, 104]), .lit (.string [114, 101, 102]), .lit (.string [102, 115, 116]), .lit (.string [115, 110, 100]), .lit (.string [101, 120, 110])]

/-- 'enclavelaw13.AtermBinds': WHATEVER THE INPUT: true; the input reads as it did. -/
def atermBindsSpec : ChangeSpec := { name := "atermBinds", fn := fun _ => fun
  | [d] => { results := [.lit (.bool true)], args := [d] }
  | _ => none }
def atermBindsRow : OpenClaim := { program := "ytolpdhkgkjnbfaadoor", sum := "877508964a2ac55f0aa2757a32b2b09f828d46d32880b81568553985be7bc51b", func := "enclave/enclavelaw13.AtermBinds", spec := "atermBinds", inPlace := ["internal/bytealg.IndexByteString"], unfollowed := true, recurses := true, named := ["enclave/words.keywords"], loops := true, apart := false, laid := [("enclave/words.keywords", laid_enclave_words_keywords)] }
def AtermBindsSaid : Prop := atermBindsRow.holds Tryd.pinned (OpenSpec.ofChange atermBindsSpec)

/-- ITS FALSE NEIGHBOUR: 'it returns false'. Refute it at one input. -/
def atermBindsWrong : ChangeSpec := { name := "atermBinds", fn := fun _ => fun
  | [d] => { results := [.lit (.bool false)], args := [d] }
  | _ => none }
def AtermBindsWrongFalsely : Prop := atermBindsRow.holds Tryd.pinned (OpenSpec.ofChange atermBindsWrong)

/-- 'enclavelaw13.AtermErase': WHATEVER THE INPUT: true; the input reads as it did. -/
def atermEraseSpec : ChangeSpec := { name := "atermErase", fn := fun _ => fun
  | [d1, d2] => { results := [.lit (.bool true)], args := [d1, d2] }
  | _ => none }
def atermEraseRow : OpenClaim := { program := "ytolpdhkgkjnbfaadoor", sum := "877508964a2ac55f0aa2757a32b2b09f828d46d32880b81568553985be7bc51b", func := "enclave/enclavelaw13.AtermErase", spec := "atermErase", inPlace := ["internal/bytealg.IndexByteString"], unfollowed := true, recurses := true, named := ["enclave/words.keywords"], loops := true, apart := false, laid := [("enclave/words.keywords", laid_enclave_words_keywords)] }
def AtermEraseSaid : Prop := atermEraseRow.holds Tryd.pinned (OpenSpec.ofChange atermEraseSpec)

/-- ITS FALSE NEIGHBOUR: 'it returns false'. Refute it at one input. -/
def atermEraseWrong : ChangeSpec := { name := "atermErase", fn := fun _ => fun
  | [d1, d2] => { results := [.lit (.bool false)], args := [d1, d2] }
  | _ => none }
def AtermEraseWrongFalsely : Prop := atermEraseRow.holds Tryd.pinned (OpenSpec.ofChange atermEraseWrong)

/-- 'enclavelaw13.AtermParts': WHATEVER THE INPUT: true; the input reads as it did. -/
def atermPartsSpec : ChangeSpec := { name := "atermParts", fn := fun _ => fun
  | [d] => { results := [.lit (.bool true)], args := [d] }
  | _ => none }
def atermPartsRow : OpenClaim := { program := "ytolpdhkgkjnbfaadoor", sum := "877508964a2ac55f0aa2757a32b2b09f828d46d32880b81568553985be7bc51b", func := "enclave/enclavelaw13.AtermParts", spec := "atermParts", inPlace := ["internal/bytealg.IndexByteString"], unfollowed := true, recurses := true, named := ["enclave/words.keywords"], loops := true, apart := false, laid := [("enclave/words.keywords", laid_enclave_words_keywords)] }
def AtermPartsSaid : Prop := atermPartsRow.holds Tryd.pinned (OpenSpec.ofChange atermPartsSpec)

/-- ITS FALSE NEIGHBOUR: 'it returns false'. Refute it at one input. -/
def atermPartsWrong : ChangeSpec := { name := "atermParts", fn := fun _ => fun
  | [d] => { results := [.lit (.bool false)], args := [d] }
  | _ => none }
def AtermPartsWrongFalsely : Prop := atermPartsRow.holds Tryd.pinned (OpenSpec.ofChange atermPartsWrong)

/- THE SECOND FORM. 'bulk': how many values and letters a reading holds, each counted each time it is reached (what is shared counts as often as it is met; a slice's spare places count too). A statement '..UptoSaid' is the law's where the arguments, and the package variables that the reading takes, are together of bulk at most 1048576: NARROWER than '..Said'. Prove '..Said' where nothing that the law and all that it calls make is longer than what came in: it says more and counts as full. Else prove '..UptoSaid'. A law counts once. -/
mutual
def uptoBulk {H : Type} : DataW H → Nat
  | .lit (.string bytes) => bytes.length + 1
  | .lit _ => 1
  | .nil => 1
  | .ptr d => uptoBulk d + 1
  | .slice elems spare => uptoBulkAll elems + uptoBulkAll spare + 1
  | .agg parts => uptoBulkAll parts + 1
  | .iface _ d => uptoBulk d + 1
  | .map entries => uptoBulkEntries entries + 1
  | .held _ => 1
def uptoBulkAll {H : Type} : List (DataW H) → Nat
  | [] => 0
  | d :: r => uptoBulk d + uptoBulkAll r
def uptoBulkEntries {H : Type} : List (Lit × DataW H) → Nat
  | [] => 0
  | x :: r => uptoBulkEntry x + uptoBulkEntries r
def uptoBulkEntry {H : Type} : Lit × DataW H → Nat
  | (.string bytes, d) => bytes.length + uptoBulk d + 1
  | (_, d) => uptoBulk d + 1
 end
def uptoSmall : (H : Type) → List (DataW H) → Bool := fun _ ds => decide (uptoBulkAll ds ≤ 1048576)
def OpenSpec.upto (s : _root_.Go.ChangeSpec) : _root_.Go.OpenSpec := { _root_.Go.OpenSpec.ofChange s with cond := some uptoSmall }

/-- 'enclavelaw13.AtermBinds', WHERE WHAT IT READS IS OF BULK AT MOST 1048576: true; the input reads as it did. -/
def atermBindsUptoRow : OpenClaim := { program := "ytolpdhkgkjnbfaadoor", sum := "877508964a2ac55f0aa2757a32b2b09f828d46d32880b81568553985be7bc51b", func := "enclave/enclavelaw13.AtermBinds", spec := "atermBinds", inPlace := ["internal/bytealg.IndexByteString"], unfollowed := true, recurses := true, named := ["enclave/words.keywords"], loops := true, apart := false, laid := [("enclave/words.keywords", laid_enclave_words_keywords)], narrowed := true }
def AtermBindsUptoSaid : Prop := atermBindsUptoRow.holds Tryd.pinned (OpenSpec.upto atermBindsSpec)

/-- 'enclavelaw13.AtermErase', WHERE WHAT IT READS IS OF BULK AT MOST 1048576: true; the input reads as it did. -/
def atermEraseUptoRow : OpenClaim := { program := "ytolpdhkgkjnbfaadoor", sum := "877508964a2ac55f0aa2757a32b2b09f828d46d32880b81568553985be7bc51b", func := "enclave/enclavelaw13.AtermErase", spec := "atermErase", inPlace := ["internal/bytealg.IndexByteString"], unfollowed := true, recurses := true, named := ["enclave/words.keywords"], loops := true, apart := false, laid := [("enclave/words.keywords", laid_enclave_words_keywords)], narrowed := true }
def AtermEraseUptoSaid : Prop := atermEraseUptoRow.holds Tryd.pinned (OpenSpec.upto atermEraseSpec)

/-- 'enclavelaw13.AtermParts', WHERE WHAT IT READS IS OF BULK AT MOST 1048576: true; the input reads as it did. -/
def atermPartsUptoRow : OpenClaim := { program := "ytolpdhkgkjnbfaadoor", sum := "877508964a2ac55f0aa2757a32b2b09f828d46d32880b81568553985be7bc51b", func := "enclave/enclavelaw13.AtermParts", spec := "atermParts", inPlace := ["internal/bytealg.IndexByteString"], unfollowed := true, recurses := true, named := ["enclave/words.keywords"], loops := true, apart := false, laid := [("enclave/words.keywords", laid_enclave_words_keywords)], narrowed := true }
def AtermPartsUptoSaid : Prop := atermPartsUptoRow.holds Tryd.pinned (OpenSpec.upto atermPartsSpec)

end Rows
end Go.Proofs.YtolpdhkgkjnbfaaDoor
