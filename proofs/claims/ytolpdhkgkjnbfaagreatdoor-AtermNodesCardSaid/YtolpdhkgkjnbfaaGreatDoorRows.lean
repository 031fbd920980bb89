/-
  NARROWER THAN 'FOR EVERY INPUT', by the rows' own cells (each row's printed sentence says how): AtermMays: loops, laid · AtermSame: loops, laid · AtermNodes: loops, laid.
  DERIVED. THE GIVEN ROWS OF THIS SEAT. 3 by the template 'for every input the law returns true; each argument reads behind the call as it read before'; 0 by the template 'total and deterministic' (their statements: YtolpdhkgkjnbfaaGreatDoorTotals.lean).
  GIVEN WITH THE SEED: the statements are not yours to turn. If you find one false, say at which input.
  Laid BY PROGRAM, IN A SANDBOX (cutbox-rows.mjs): the forced cells as the released guide's own fill.sh prints them over the translation 37f81b654664418f… (all of the seat's roots in one cut). By AI agents, Wed Nov 11 2026. No macro, syntax, notation, axiom, sorry.
-/
import Derived.Test.YtolpdhkgkjnbfaaGreatDoorChecked
import GoSem.Claim
import GoSem.ClaimJoined
import GoSem.ClaimMapViews
import Derived.JoinedTies
import Derived.KernelRfl
namespace Go.Proofs.YtolpdhkgkjnbfaaGreatDoor
/- THE CELL 'sum', in the pinned program and in every row, IS THE sha256 OF THE DUMP (.gsa) THAT YtolpdhkgkjnbfaaGreatDoorProg.lean LOADS. Nothing in Lean hashes anything: it is a label: what it is worth is what the hold of that sum in a sandbox is worth. -/
noncomputable def Tryz.pinned : Pinned := { name := "ytolpdhkgkjnbfaagreatdoor", sum := "37f81b654664418fa5e250f7f4668f00e29c678da294de9ce18d691940c4c6b7", checked := Tryz.checked }
namespace Rows
def none {H : Type} : Left H := { results := [], args := [] }

/- WHAT THE LISTED PACKAGE-LEVEL VARIABLES READ AS WHEN THE CALL BEGINS. Each datum BY PROGRAM (the guide's laid-datum.mjs) off the statement by which the dump's own 'gosem.cut.vars' lays the variable. In a bare row this is a premise. The card (YtolpdhkgkjnbfaaGreatDoorCards.lean) ties it to the program's text. -/
def laid_enclave_words_keywords {H : Type} : DataW H := .agg [.lit (.string [108, 101, 116]), .lit (.string [108, 101, 116, 114, 101, 99]), .lit (.string [105, 110]), .lit (.string [102, 110]), .lit (.string [105, 102]), .lit (.string [116, 104, 101, 110]), .lit (.string [101, 108, 115, 101]), .lit (.string [114, 97, 105, 115, 101]), .lit (.string [116, 114, 121]), .lit (.string [119, 105, 116, 104]), .lit (.string [114, 101, 102]), .lit (.string [102, 115, 116]), .lit (.string [115, 110, 100]), .lit (.string [101, 120, 110])]

/-- 'enclavelaw13.AtermMays': WHATEVER THE INPUT: true; the input reads as it did. -/
def atermMaysSpec : ChangeSpec := { name := "atermMays", fn := fun _ => fun
  | [d] => { results := [.lit (.bool true)], args := [d] }
  | _ => none }
def atermMaysRow : OpenClaim := { program := "ytolpdhkgkjnbfaagreatdoor", sum := "37f81b654664418fa5e250f7f4668f00e29c678da294de9ce18d691940c4c6b7", func := "enclave/enclavelaw13.AtermMays", spec := "atermMays", inPlace := ["internal/bytealg.IndexByteString"], unfollowed := true, recurses := true, named := ["enclave/words.keywords"], loops := true, apart := false, laid := [("enclave/words.keywords", laid_enclave_words_keywords)] }
def AtermMaysSaid : Prop := atermMaysRow.holds Tryz.pinned (OpenSpec.ofChange atermMaysSpec)

/-- ITS FALSE NEIGHBOUR: 'it returns false'. Refute it at one input. -/
def atermMaysWrong : ChangeSpec := { name := "atermMays", fn := fun _ => fun
  | [d] => { results := [.lit (.bool false)], args := [d] }
  | _ => none }
def AtermMaysWrongFalsely : Prop := atermMaysRow.holds Tryz.pinned (OpenSpec.ofChange atermMaysWrong)

/-- 'enclavelaw13.AtermSame': WHATEVER THE INPUT: true; the input reads as it did. -/
def atermSameSpec : ChangeSpec := { name := "atermSame", fn := fun _ => fun
  | [d1, d2] => { results := [.lit (.bool true)], args := [d1, d2] }
  | _ => none }
def atermSameRow : OpenClaim := { program := "ytolpdhkgkjnbfaagreatdoor", sum := "37f81b654664418fa5e250f7f4668f00e29c678da294de9ce18d691940c4c6b7", func := "enclave/enclavelaw13.AtermSame", spec := "atermSame", inPlace := ["internal/bytealg.IndexByteString"], unfollowed := true, recurses := true, named := ["enclave/words.keywords"], loops := true, apart := false, laid := [("enclave/words.keywords", laid_enclave_words_keywords)] }
def AtermSameSaid : Prop := atermSameRow.holds Tryz.pinned (OpenSpec.ofChange atermSameSpec)

/-- ITS FALSE NEIGHBOUR: 'it returns false'. Refute it at one input. -/
def atermSameWrong : ChangeSpec := { name := "atermSame", fn := fun _ => fun
  | [d1, d2] => { results := [.lit (.bool false)], args := [d1, d2] }
  | _ => none }
def AtermSameWrongFalsely : Prop := atermSameRow.holds Tryz.pinned (OpenSpec.ofChange atermSameWrong)

/-- 'enclavelaw13.AtermNodes': WHATEVER THE INPUT: true; the input reads as it did. -/
def atermNodesSpec : ChangeSpec := { name := "atermNodes", fn := fun _ => fun
  | [d] => { results := [.lit (.bool true)], args := [d] }
  | _ => none }
def atermNodesRow : OpenClaim := { program := "ytolpdhkgkjnbfaagreatdoor", sum := "37f81b654664418fa5e250f7f4668f00e29c678da294de9ce18d691940c4c6b7", func := "enclave/enclavelaw13.AtermNodes", spec := "atermNodes", inPlace := ["internal/bytealg.IndexByteString"], unfollowed := true, recurses := true, named := ["enclave/words.keywords"], loops := true, apart := false, laid := [("enclave/words.keywords", laid_enclave_words_keywords)] }
def AtermNodesSaid : Prop := atermNodesRow.holds Tryz.pinned (OpenSpec.ofChange atermNodesSpec)

/-- ITS FALSE NEIGHBOUR: 'it returns false'. Refute it at one input. -/
def atermNodesWrong : ChangeSpec := { name := "atermNodes", fn := fun _ => fun
  | [d] => { results := [.lit (.bool false)], args := [d] }
  | _ => none }
def AtermNodesWrongFalsely : Prop := atermNodesRow.holds Tryz.pinned (OpenSpec.ofChange atermNodesWrong)

/- THE SECOND FORM. 'bulk': how many values and letters a reading holds, each counted each time it is reached (what is shared counts as often as it is met; a slice's spare places count too). A statement '..UptoSaid' is the law's where the arguments, and the package variables that the reading takes, are together of bulk at most 1048576: NARROWER than '..Said'. Prove '..Said' where nothing that the law and all that it calls make is longer than what came in: it says more and counts as full. Else prove '..UptoSaid'. A law counts once. -/
mutual
def uptoBulk {H : Type} : DataW H → Nat
  | .lit (.string bytes) => bytes.length + 1
  | .lit _ => 1
  | .nil => 1
  | .ptr d => uptoBulk d + 1
  | .slice elems spare => uptoBulkAll elems + uptoBulkAll spare + 1
  | .agg parts => uptoBulkAll parts + 1
  | .iface _ d => uptoBulk d + 1
  | .map entries => uptoBulkEntries entries + 1
  | .held _ => 1
def uptoBulkAll {H : Type} : List (DataW H) → Nat
  | [] => 0
  | d :: r => uptoBulk d + uptoBulkAll r
def uptoBulkEntries {H : Type} : List (Lit × DataW H) → Nat
  | [] => 0
  | x :: r => uptoBulkEntry x + uptoBulkEntries r
def uptoBulkEntry {H : Type} : Lit × DataW H → Nat
  | (.string bytes, d) => bytes.length + uptoBulk d + 1
  | (_, d) => uptoBulk d + 1
 end
def uptoSmall : (H : Type) → List (DataW H) → Bool := fun _ ds => decide (uptoBulkAll ds ≤ 1048576)
def OpenSpec.upto (s : _root_.Go.ChangeSpec) : _root_.Go.OpenSpec := { _root_.Go.OpenSpec.ofChange s with cond := some uptoSmall }

/-- 'enclavelaw13.AtermMays', WHERE WHAT IT READS IS OF BULK AT MOST 1048576: true; the input reads as it did. -/
def atermMaysUptoRow : OpenClaim := { program := "ytolpdhkgkjnbfaagreatdoor", sum := "37f81b654664418fa5e250f7f4668f00e29c678da294de9ce18d691940c4c6b7", func := "enclave/enclavelaw13.AtermMays", spec := "atermMays", inPlace := ["internal/bytealg.IndexByteString"], unfollowed := true, recurses := true, named := ["enclave/words.keywords"], loops := true, apart := false, laid := [("enclave/words.keywords", laid_enclave_words_keywords)], narrowed := true }
def AtermMaysUptoSaid : Prop := atermMaysUptoRow.holds Tryz.pinned (OpenSpec.upto atermMaysSpec)

/-- 'enclavelaw13.AtermSame', WHERE WHAT IT READS IS OF BULK AT MOST 1048576: true; the input reads as it did. -/
def atermSameUptoRow : OpenClaim := { program := "ytolpdhkgkjnbfaagreatdoor", sum := "37f81b654664418fa5e250f7f4668f00e29c678da294de9ce18d691940c4c6b7", func := "enclave/enclavelaw13.AtermSame", spec := "atermSame", inPlace := ["internal/bytealg.IndexByteString"], unfollowed := true, recurses := true, named := ["enclave/words.keywords"], loops := true, apart := false, laid := [("enclave/words.keywords", laid_enclave_words_keywords)], narrowed := true }
def AtermSameUptoSaid : Prop := atermSameUptoRow.holds Tryz.pinned (OpenSpec.upto atermSameSpec)

/-- 'enclavelaw13.AtermNodes', WHERE WHAT IT READS IS OF BULK AT MOST 1048576: true; the input reads as it did. -/
def atermNodesUptoRow : OpenClaim := { program := "ytolpdhkgkjnbfaagreatdoor", sum := "37f81b654664418fa5e250f7f4668f00e29c678da294de9ce18d691940c4c6b7", func := "enclave/enclavelaw13.AtermNodes", spec := "atermNodes", inPlace := ["internal/bytealg.IndexByteString"], unfollowed := true, recurses := true, named := ["enclave/words.keywords"], loops := true, apart := false, laid := [("enclave/words.keywords", laid_enclave_words_keywords)], narrowed := true }
def AtermNodesUptoSaid : Prop := atermNodesUptoRow.holds Tryz.pinned (OpenSpec.upto atermNodesSpec)

end Rows
end Go.Proofs.YtolpdhkgkjnbfaaGreatDoor
