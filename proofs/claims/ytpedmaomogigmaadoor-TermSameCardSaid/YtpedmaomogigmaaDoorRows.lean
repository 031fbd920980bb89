/-
  NARROWER THAN 'FOR EVERY INPUT', by the rows' own cells (each row's printed sentence says how): TermMays: loops, laid · TermCounts: loops, laid · TermSame: loops, laid · TermMany: laid · TermSums: loops, laid.
  DERIVED. THE GIVEN ROWS OF THIS SEAT. 5 by the template 'for every input the law returns true; each argument reads behind the call as it read before'; 0 by the template 'total and deterministic' (their statements: YtpedmaomogigmaaDoorTotals.lean).
  GIVEN WITH THE SEED: the statements are not yours to turn. If you find one false, say at which input.
  Laid BY PROGRAM, IN A SANDBOX (cutbox-rows.mjs): the forced cells as the released guide's own fill.sh prints them over the translation 0ca0f7c1ce43a415… (all of the seat's roots in one cut). By AI agents, Wed Nov 11 2026. No macro, syntax, notation, axiom, sorry.
-/
import Derived.Test.YtpedmaomogigmaaDoorChecked
import GoSem.Claim
import GoSem.ClaimJoined
import GoSem.ClaimMapViews
import Derived.JoinedTies
import Derived.KernelRfl
namespace Go.Proofs.YtpedmaomogigmaaDoor
/- THE CELL 'sum', in the pinned program and in every row, IS THE sha256 OF THE DUMP (.gsa) THAT YtpedmaomogigmaaDoorProg.lean LOADS. Nothing in Lean hashes anything: it is a label: what it is worth is what the hold of that sum in a sandbox is worth. -/
noncomputable def Tryd.pinned : Pinned := { name := "ytpedmaomogigmaadoor", sum := "0ca0f7c1ce43a4157c0ce9836c22d217ae8563b05f0ac18238010a692e55142c", checked := Tryd.checked }
namespace Rows
def none {H : Type} : Left H := { results := [], args := [] }

/- WHAT THE LISTED PACKAGE-LEVEL VARIABLES READ AS WHEN THE CALL BEGINS. Each datum BY PROGRAM (the guide's laid-datum.mjs) off the statement by which the dump's own 'gosem.cut.vars' lays the variable. In a bare row this is a premise. The card (YtpedmaomogigmaaDoorCards.lean) ties it to the program's text. -/
def laid_enclave_words_keywords {H : Type} : DataW H := .agg [.lit (.string [108, 101, 116]), .lit (.string [108, 101, 116, 114, 101, 99]), .lit (.string [105, 110]), .lit (.string [102, 110]), .lit (.string [105, 102]), .lit (.string [116, 104, 101, 110]), .lit (.string [101, 108, 115, 101]), .lit (.string [114, 97, 105, 115, 101]), .lit (.string [116, 114, 121]), .lit (.string [119, 105, 116, 104]), .lit (.string [114, 101, 102]), .lit (.string [102, 115, 116]), .lit (.string [115, 110, 100]), .lit (.string [101, 120, 110])]

/-- 'enclavelaw04.TermMays': WHATEVER THE INPUT: true; the input reads as it did. -/
def termMaysSpec : ChangeSpec := { name := "termMays", fn := fun _ => fun
  | [d] => { results := [.lit (.bool true)], args := [d] }
  | _ => none }
def termMaysRow : OpenClaim := { program := "ytpedmaomogigmaadoor", sum := "0ca0f7c1ce43a4157c0ce9836c22d217ae8563b05f0ac18238010a692e55142c", func := "enclave/enclavelaw04.TermMays", spec := "termMays", inPlace := ["internal/bytealg.IndexByteString"], unfollowed := true, recurses := true, named := ["enclave/words.keywords"], loops := true, apart := false, laid := [("enclave/words.keywords", laid_enclave_words_keywords)] }
def TermMaysSaid : Prop := termMaysRow.holds Tryd.pinned (OpenSpec.ofChange termMaysSpec)

/-- ITS FALSE NEIGHBOUR: 'it returns false'. Refute it at one input. -/
def termMaysWrong : ChangeSpec := { name := "termMays", fn := fun _ => fun
  | [d] => { results := [.lit (.bool false)], args := [d] }
  | _ => none }
def TermMaysWrongFalsely : Prop := termMaysRow.holds Tryd.pinned (OpenSpec.ofChange termMaysWrong)

/-- 'enclavelaw04.TermCounts': WHATEVER THE INPUT: true; the input reads as it did. -/
def termCountsSpec : ChangeSpec := { name := "termCounts", fn := fun _ => fun
  | [d1, d2] => { results := [.lit (.bool true)], args := [d1, d2] }
  | _ => none }
def termCountsRow : OpenClaim := { program := "ytpedmaomogigmaadoor", sum := "0ca0f7c1ce43a4157c0ce9836c22d217ae8563b05f0ac18238010a692e55142c", func := "enclave/enclavelaw04.TermCounts", spec := "termCounts", inPlace := ["internal/bytealg.IndexByteString"], unfollowed := true, recurses := true, named := ["enclave/words.keywords"], loops := true, apart := false, laid := [("enclave/words.keywords", laid_enclave_words_keywords)] }
def TermCountsSaid : Prop := termCountsRow.holds Tryd.pinned (OpenSpec.ofChange termCountsSpec)

/-- ITS FALSE NEIGHBOUR: 'it returns false'. Refute it at one input. -/
def termCountsWrong : ChangeSpec := { name := "termCounts", fn := fun _ => fun
  | [d1, d2] => { results := [.lit (.bool false)], args := [d1, d2] }
  | _ => none }
def TermCountsWrongFalsely : Prop := termCountsRow.holds Tryd.pinned (OpenSpec.ofChange termCountsWrong)

/-- 'enclavelaw04.TermSame': WHATEVER THE INPUT: true; the input reads as it did. -/
def termSameSpec : ChangeSpec := { name := "termSame", fn := fun _ => fun
  | [d1, d2, d3] => { results := [.lit (.bool true)], args := [d1, d2, d3] }
  | _ => none }
def termSameRow : OpenClaim := { program := "ytpedmaomogigmaadoor", sum := "0ca0f7c1ce43a4157c0ce9836c22d217ae8563b05f0ac18238010a692e55142c", func := "enclave/enclavelaw04.TermSame", spec := "termSame", inPlace := ["internal/bytealg.IndexByteString"], unfollowed := true, recurses := true, named := ["enclave/words.keywords"], loops := true, apart := false, laid := [("enclave/words.keywords", laid_enclave_words_keywords)] }
def TermSameSaid : Prop := termSameRow.holds Tryd.pinned (OpenSpec.ofChange termSameSpec)

/-- ITS FALSE NEIGHBOUR: 'it returns false'. Refute it at one input. -/
def termSameWrong : ChangeSpec := { name := "termSame", fn := fun _ => fun
  | [d1, d2, d3] => { results := [.lit (.bool false)], args := [d1, d2, d3] }
  | _ => none }
def TermSameWrongFalsely : Prop := termSameRow.holds Tryd.pinned (OpenSpec.ofChange termSameWrong)

/-- 'enclavelaw04.TermMany': WHATEVER THE INPUT: true; the input reads as it did. -/
def termManySpec : ChangeSpec := { name := "termMany", fn := fun _ => fun
  | [d] => { results := [.lit (.bool true)], args := [d] }
  | _ => none }
def termManyRow : OpenClaim := { program := "ytpedmaomogigmaadoor", sum := "0ca0f7c1ce43a4157c0ce9836c22d217ae8563b05f0ac18238010a692e55142c", func := "enclave/enclavelaw04.TermMany", spec := "termMany", inPlace := ["internal/bytealg.IndexByteString"], unfollowed := true, recurses := true, named := ["enclave/words.keywords"], apart := false, laid := [("enclave/words.keywords", laid_enclave_words_keywords)] }
def TermManySaid : Prop := termManyRow.holds Tryd.pinned (OpenSpec.ofChange termManySpec)

/-- ITS FALSE NEIGHBOUR: 'it returns false'. Refute it at one input. -/
def termManyWrong : ChangeSpec := { name := "termMany", fn := fun _ => fun
  | [d] => { results := [.lit (.bool false)], args := [d] }
  | _ => none }
def TermManyWrongFalsely : Prop := termManyRow.holds Tryd.pinned (OpenSpec.ofChange termManyWrong)

/-- 'enclavelaw04.TermSums': WHATEVER THE INPUT: true; the input reads as it did. -/
def termSumsSpec : ChangeSpec := { name := "termSums", fn := fun _ => fun
  | [d] => { results := [.lit (.bool true)], args := [d] }
  | _ => none }
def termSumsRow : OpenClaim := { program := "ytpedmaomogigmaadoor", sum := "0ca0f7c1ce43a4157c0ce9836c22d217ae8563b05f0ac18238010a692e55142c", func := "enclave/enclavelaw04.TermSums", spec := "termSums", inPlace := ["internal/bytealg.IndexByteString"], unfollowed := true, recurses := true, named := ["enclave/words.keywords"], loops := true, apart := false, laid := [("enclave/words.keywords", laid_enclave_words_keywords)] }
def TermSumsSaid : Prop := termSumsRow.holds Tryd.pinned (OpenSpec.ofChange termSumsSpec)

/-- ITS FALSE NEIGHBOUR: 'it returns false'. Refute it at one input. -/
def termSumsWrong : ChangeSpec := { name := "termSums", fn := fun _ => fun
  | [d] => { results := [.lit (.bool false)], args := [d] }
  | _ => none }
def TermSumsWrongFalsely : Prop := termSumsRow.holds Tryd.pinned (OpenSpec.ofChange termSumsWrong)

/- THE SECOND FORM. 'bulk': how many values and letters a reading holds, each counted each time it is reached (what is shared counts as often as it is met; a slice's spare places count too). A statement '..UptoSaid' is the law's where the arguments, and the package variables that the reading takes, are together of bulk at most 1048576: NARROWER than '..Said'. Prove '..Said' where nothing that the law and all that it calls make is longer than what came in: it says more and counts as full. Else prove '..UptoSaid'. A law counts once. -/
mutual
def uptoBulk {H : Type} : DataW H → Nat
  | .lit (.string bytes) => bytes.length + 1
  | .lit _ => 1
  | .nil => 1
  | .ptr d => uptoBulk d + 1
  | .slice elems spare => uptoBulkAll elems + uptoBulkAll spare + 1
  | .agg parts => uptoBulkAll parts + 1
  | .iface _ d => uptoBulk d + 1
  | .map entries => uptoBulkEntries entries + 1
  | .held _ => 1
def uptoBulkAll {H : Type} : List (DataW H) → Nat
  | [] => 0
  | d :: r => uptoBulk d + uptoBulkAll r
def uptoBulkEntries {H : Type} : List (Lit × DataW H) → Nat
  | [] => 0
  | x :: r => uptoBulkEntry x + uptoBulkEntries r
def uptoBulkEntry {H : Type} : Lit × DataW H → Nat
  | (.string bytes, d) => bytes.length + uptoBulk d + 1
  | (_, d) => uptoBulk d + 1
 end
def uptoSmall : (H : Type) → List (DataW H) → Bool := fun _ ds => decide (uptoBulkAll ds ≤ 1048576)
def OpenSpec.upto (s : _root_.Go.ChangeSpec) : _root_.Go.OpenSpec := { _root_.Go.OpenSpec.ofChange s with cond := some uptoSmall }

/-- 'enclavelaw04.TermMays', WHERE WHAT IT READS IS OF BULK AT MOST 1048576: true; the input reads as it did. -/
def termMaysUptoRow : OpenClaim := { program := "ytpedmaomogigmaadoor", sum := "0ca0f7c1ce43a4157c0ce9836c22d217ae8563b05f0ac18238010a692e55142c", func := "enclave/enclavelaw04.TermMays", spec := "termMays", inPlace := ["internal/bytealg.IndexByteString"], unfollowed := true, recurses := true, named := ["enclave/words.keywords"], loops := true, apart := false, laid := [("enclave/words.keywords", laid_enclave_words_keywords)], narrowed := true }
def TermMaysUptoSaid : Prop := termMaysUptoRow.holds Tryd.pinned (OpenSpec.upto termMaysSpec)

/-- 'enclavelaw04.TermCounts', WHERE WHAT IT READS IS OF BULK AT MOST 1048576: true; the input reads as it did. -/
def termCountsUptoRow : OpenClaim := { program := "ytpedmaomogigmaadoor", sum := "0ca0f7c1ce43a4157c0ce9836c22d217ae8563b05f0ac18238010a692e55142c", func := "enclave/enclavelaw04.TermCounts", spec := "termCounts", inPlace := ["internal/bytealg.IndexByteString"], unfollowed := true, recurses := true, named := ["enclave/words.keywords"], loops := true, apart := false, laid := [("enclave/words.keywords", laid_enclave_words_keywords)], narrowed := true }
def TermCountsUptoSaid : Prop := termCountsUptoRow.holds Tryd.pinned (OpenSpec.upto termCountsSpec)

/-- 'enclavelaw04.TermSame', WHERE WHAT IT READS IS OF BULK AT MOST 1048576: true; the input reads as it did. -/
def termSameUptoRow : OpenClaim := { program := "ytpedmaomogigmaadoor", sum := "0ca0f7c1ce43a4157c0ce9836c22d217ae8563b05f0ac18238010a692e55142c", func := "enclave/enclavelaw04.TermSame", spec := "termSame", inPlace := ["internal/bytealg.IndexByteString"], unfollowed := true, recurses := true, named := ["enclave/words.keywords"], loops := true, apart := false, laid := [("enclave/words.keywords", laid_enclave_words_keywords)], narrowed := true }
def TermSameUptoSaid : Prop := termSameUptoRow.holds Tryd.pinned (OpenSpec.upto termSameSpec)

/-- 'enclavelaw04.TermMany', WHERE WHAT IT READS IS OF BULK AT MOST 1048576: true; the input reads as it did. -/
def termManyUptoRow : OpenClaim := { program := "ytpedmaomogigmaadoor", sum := "0ca0f7c1ce43a4157c0ce9836c22d217ae8563b05f0ac18238010a692e55142c", func := "enclave/enclavelaw04.TermMany", spec := "termMany", inPlace := ["internal/bytealg.IndexByteString"], unfollowed := true, recurses := true, named := ["enclave/words.keywords"], apart := false, laid := [("enclave/words.keywords", laid_enclave_words_keywords)], narrowed := true }
def TermManyUptoSaid : Prop := termManyUptoRow.holds Tryd.pinned (OpenSpec.upto termManySpec)

/-- 'enclavelaw04.TermSums', WHERE WHAT IT READS IS OF BULK AT MOST 1048576: true; the input reads as it did. -/
def termSumsUptoRow : OpenClaim := { program := "ytpedmaomogigmaadoor", sum := "0ca0f7c1ce43a4157c0ce9836c22d217ae8563b05f0ac18238010a692e55142c", func := "enclave/enclavelaw04.TermSums", spec := "termSums", inPlace := ["internal/bytealg.IndexByteString"], unfollowed := true, recurses := true, named := ["enclave/words.keywords"], loops := true, apart := false, laid := [("enclave/words.keywords", laid_enclave_words_keywords)], narrowed := true }
def TermSumsUptoSaid : Prop := termSumsUptoRow.holds Tryd.pinned (OpenSpec.upto termSumsSpec)

end Rows
end Go.Proofs.YtpedmaomogigmaaDoor
