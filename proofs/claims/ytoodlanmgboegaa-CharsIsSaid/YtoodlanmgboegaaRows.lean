/-
  No cell of these rows narrows 'for every input' (looked for: loops, veiled, ifaces, maps, wideKeys, modest, calm, conditions, laid).
  DERIVED. THE GIVEN ROWS OF THIS SEAT. 5 by the template 'for every input the law returns true; each argument reads behind the call as it read before'; 0 by the template 'total and deterministic' (their statements: YtoodlanmgboegaaTotals.lean).
  GIVEN WITH THE SEED: the statements are not yours to turn. If you find one false, say at which input.
  Laid BY PROGRAM, IN A SANDBOX (cutbox-rows.mjs): the forced cells as the released guide's own fill.sh prints them over the translation 2690b07a892f3c13… (all of the seat's roots in one cut). By AI agents, Wed Nov 11 2026. No macro, syntax, notation, axiom, sorry.
-/
import Derived.Test.YtoodlanmgboegaaChecked
import GoSem.Claim
import GoSem.ClaimJoined
import GoSem.ClaimMapViews
import Derived.JoinedTies
import Derived.KernelRfl
namespace Go.Proofs.Ytoodlanmgboegaa
/- THE CELL 'sum', in the pinned program and in every row, IS THE sha256 OF THE DUMP (.gsa) THAT YtoodlanmgboegaaProg.lean LOADS. Nothing in Lean hashes anything: it is a label: what it is worth is what the hold of that sum in a sandbox is worth. -/
noncomputable def Try.pinned : Pinned := { name := "ytoodlanmgboegaa", sum := "2690b07a892f3c136fa6cfb452e6835d584f9e1474d79a3e90cb3f9a76f60a95", checked := Try.checked }
namespace Rows
def none {H : Type} : Left H := { results := [], args := [] }

/-- 'enclavelaw01.CharsIs': WHATEVER THE INPUT: true; the input reads as it did. -/
def charsIsSpec : ChangeSpec := { name := "charsIs", fn := fun _ => fun
  | [d] => { results := [.lit (.bool true)], args := [d] }
  | _ => none }
def charsIsRow : OpenClaim := { program := "ytoodlanmgboegaa", sum := "2690b07a892f3c136fa6cfb452e6835d584f9e1474d79a3e90cb3f9a76f60a95", func := "enclave/enclavelaw01.CharsIs", spec := "charsIs", inPlace := ["internal/bytealg.IndexByteString"], unfollowed := true, recurses := true, apart := false }
def CharsIsSaid : Prop := charsIsRow.holds Try.pinned (OpenSpec.ofChange charsIsSpec)

/-- ITS FALSE NEIGHBOUR: 'it returns false'. Refute it at one input. -/
def charsIsWrong : ChangeSpec := { name := "charsIs", fn := fun _ => fun
  | [d] => { results := [.lit (.bool false)], args := [d] }
  | _ => none }
def CharsIsWrongFalsely : Prop := charsIsRow.holds Try.pinned (OpenSpec.ofChange charsIsWrong)

/-- 'enclavelaw01.CharsSpans': WHATEVER THE INPUT: true; the input reads as it did. -/
def charsSpansSpec : ChangeSpec := { name := "charsSpans", fn := fun _ => fun
  | [d1, d2, d3] => { results := [.lit (.bool true)], args := [d1, d2, d3] }
  | _ => none }
def charsSpansRow : OpenClaim := { program := "ytoodlanmgboegaa", sum := "2690b07a892f3c136fa6cfb452e6835d584f9e1474d79a3e90cb3f9a76f60a95", func := "enclave/enclavelaw01.CharsSpans", spec := "charsSpans", inPlace := ["internal/bytealg.IndexByteString", "internal/bytealg.Count", "internal/bytealg.IndexByte", "internal/bytealg.Index"], unfollowed := true, recurses := true, named := ["internal/bytealg.MaxLen"], apart := false }
def CharsSpansSaid : Prop := charsSpansRow.holds Try.pinned (OpenSpec.ofChange charsSpansSpec)

/-- ITS FALSE NEIGHBOUR: 'it returns false'. Refute it at one input. -/
def charsSpansWrong : ChangeSpec := { name := "charsSpans", fn := fun _ => fun
  | [d1, d2, d3] => { results := [.lit (.bool false)], args := [d1, d2, d3] }
  | _ => none }
def CharsSpansWrongFalsely : Prop := charsSpansRow.holds Try.pinned (OpenSpec.ofChange charsSpansWrong)

/-- 'enclavelaw01.CharsRises': WHATEVER THE INPUT: true; the input reads as it did. -/
def charsRisesSpec : ChangeSpec := { name := "charsRises", fn := fun _ => fun
  | [d1, d2, d3] => { results := [.lit (.bool true)], args := [d1, d2, d3] }
  | _ => none }
def charsRisesRow : OpenClaim := { program := "ytoodlanmgboegaa", sum := "2690b07a892f3c136fa6cfb452e6835d584f9e1474d79a3e90cb3f9a76f60a95", func := "enclave/enclavelaw01.CharsRises", spec := "charsRises", inPlace := ["internal/bytealg.IndexByteString", "internal/bytealg.Count", "internal/bytealg.IndexByte", "internal/bytealg.Index"], unfollowed := true, recurses := true, named := ["internal/bytealg.MaxLen"], apart := false }
def CharsRisesSaid : Prop := charsRisesRow.holds Try.pinned (OpenSpec.ofChange charsRisesSpec)

/-- ITS FALSE NEIGHBOUR: 'it returns false'. Refute it at one input. -/
def charsRisesWrong : ChangeSpec := { name := "charsRises", fn := fun _ => fun
  | [d1, d2, d3] => { results := [.lit (.bool false)], args := [d1, d2, d3] }
  | _ => none }
def CharsRisesWrongFalsely : Prop := charsRisesRow.holds Try.pinned (OpenSpec.ofChange charsRisesWrong)

/-- 'enclavelaw01.CharsCuts': WHATEVER THE INPUT: true; the input reads as it did. -/
def charsCutsSpec : ChangeSpec := { name := "charsCuts", fn := fun _ => fun
  | [d] => { results := [.lit (.bool true)], args := [d] }
  | _ => none }
def charsCutsRow : OpenClaim := { program := "ytoodlanmgboegaa", sum := "2690b07a892f3c136fa6cfb452e6835d584f9e1474d79a3e90cb3f9a76f60a95", func := "enclave/enclavelaw01.CharsCuts", spec := "charsCuts", inPlace := ["internal/bytealg.IndexByteString"], unfollowed := true, recurses := true, apart := false }
def CharsCutsSaid : Prop := charsCutsRow.holds Try.pinned (OpenSpec.ofChange charsCutsSpec)

/-- ITS FALSE NEIGHBOUR: 'it returns false'. Refute it at one input. -/
def charsCutsWrong : ChangeSpec := { name := "charsCuts", fn := fun _ => fun
  | [d] => { results := [.lit (.bool false)], args := [d] }
  | _ => none }
def CharsCutsWrongFalsely : Prop := charsCutsRow.holds Try.pinned (OpenSpec.ofChange charsCutsWrong)

/-- 'enclavelaw01.CharsLines': WHATEVER THE INPUT: true; the input reads as it did. -/
def charsLinesSpec : ChangeSpec := { name := "charsLines", fn := fun _ => fun
  | [d1, d2] => { results := [.lit (.bool true)], args := [d1, d2] }
  | _ => none }
def charsLinesRow : OpenClaim := { program := "ytoodlanmgboegaa", sum := "2690b07a892f3c136fa6cfb452e6835d584f9e1474d79a3e90cb3f9a76f60a95", func := "enclave/enclavelaw01.CharsLines", spec := "charsLines", inPlace := ["internal/bytealg.IndexByteString", "internal/bytealg.Count", "internal/bytealg.IndexByte", "internal/bytealg.Index"], unfollowed := true, recurses := true, named := ["internal/bytealg.MaxLen"], apart := false }
def CharsLinesSaid : Prop := charsLinesRow.holds Try.pinned (OpenSpec.ofChange charsLinesSpec)

/-- ITS FALSE NEIGHBOUR: 'it returns false'. Refute it at one input. -/
def charsLinesWrong : ChangeSpec := { name := "charsLines", fn := fun _ => fun
  | [d1, d2] => { results := [.lit (.bool false)], args := [d1, d2] }
  | _ => none }
def CharsLinesWrongFalsely : Prop := charsLinesRow.holds Try.pinned (OpenSpec.ofChange charsLinesWrong)

/- THE SECOND FORM. 'bulk': how many values and letters a reading holds, each counted each time it is reached (what is shared counts as often as it is met; a slice's spare places count too). A statement '..UptoSaid' is the law's where the arguments, and the package variables that the reading takes, are together of bulk at most 1048576: NARROWER than '..Said'. Prove '..Said' where nothing that the law and all that it calls make is longer than what came in: it says more and counts as full. Else prove '..UptoSaid'. A law counts once. -/
mutual
def uptoBulk {H : Type} : DataW H → Nat
  | .lit (.string bytes) => bytes.length + 1
  | .lit _ => 1
  | .nil => 1
  | .ptr d => uptoBulk d + 1
  | .slice elems spare => uptoBulkAll elems + uptoBulkAll spare + 1
  | .agg parts => uptoBulkAll parts + 1
  | .iface _ d => uptoBulk d + 1
  | .map entries => uptoBulkEntries entries + 1
  | .held _ => 1
def uptoBulkAll {H : Type} : List (DataW H) → Nat
  | [] => 0
  | d :: r => uptoBulk d + uptoBulkAll r
def uptoBulkEntries {H : Type} : List (Lit × DataW H) → Nat
  | [] => 0
  | x :: r => uptoBulkEntry x + uptoBulkEntries r
def uptoBulkEntry {H : Type} : Lit × DataW H → Nat
  | (.string bytes, d) => bytes.length + uptoBulk d + 1
  | (_, d) => uptoBulk d + 1
 end
def uptoSmall : (H : Type) → List (DataW H) → Bool := fun _ ds => decide (uptoBulkAll ds ≤ 1048576)
def OpenSpec.upto (s : _root_.Go.ChangeSpec) : _root_.Go.OpenSpec := { _root_.Go.OpenSpec.ofChange s with cond := some uptoSmall }

/-- 'enclavelaw01.CharsIs', WHERE WHAT IT READS IS OF BULK AT MOST 1048576: true; the input reads as it did. -/
def charsIsUptoRow : OpenClaim := { program := "ytoodlanmgboegaa", sum := "2690b07a892f3c136fa6cfb452e6835d584f9e1474d79a3e90cb3f9a76f60a95", func := "enclave/enclavelaw01.CharsIs", spec := "charsIs", inPlace := ["internal/bytealg.IndexByteString"], unfollowed := true, recurses := true, apart := false, narrowed := true }
def CharsIsUptoSaid : Prop := charsIsUptoRow.holds Try.pinned (OpenSpec.upto charsIsSpec)

/-- 'enclavelaw01.CharsSpans', WHERE WHAT IT READS IS OF BULK AT MOST 1048576: true; the input reads as it did. -/
def charsSpansUptoRow : OpenClaim := { program := "ytoodlanmgboegaa", sum := "2690b07a892f3c136fa6cfb452e6835d584f9e1474d79a3e90cb3f9a76f60a95", func := "enclave/enclavelaw01.CharsSpans", spec := "charsSpans", inPlace := ["internal/bytealg.IndexByteString", "internal/bytealg.Count", "internal/bytealg.IndexByte", "internal/bytealg.Index"], unfollowed := true, recurses := true, named := ["internal/bytealg.MaxLen"], apart := false, narrowed := true }
def CharsSpansUptoSaid : Prop := charsSpansUptoRow.holds Try.pinned (OpenSpec.upto charsSpansSpec)

/-- 'enclavelaw01.CharsRises', WHERE WHAT IT READS IS OF BULK AT MOST 1048576: true; the input reads as it did. -/
def charsRisesUptoRow : OpenClaim := { program := "ytoodlanmgboegaa", sum := "2690b07a892f3c136fa6cfb452e6835d584f9e1474d79a3e90cb3f9a76f60a95", func := "enclave/enclavelaw01.CharsRises", spec := "charsRises", inPlace := ["internal/bytealg.IndexByteString", "internal/bytealg.Count", "internal/bytealg.IndexByte", "internal/bytealg.Index"], unfollowed := true, recurses := true, named := ["internal/bytealg.MaxLen"], apart := false, narrowed := true }
def CharsRisesUptoSaid : Prop := charsRisesUptoRow.holds Try.pinned (OpenSpec.upto charsRisesSpec)

/-- 'enclavelaw01.CharsCuts', WHERE WHAT IT READS IS OF BULK AT MOST 1048576: true; the input reads as it did. -/
def charsCutsUptoRow : OpenClaim := { program := "ytoodlanmgboegaa", sum := "2690b07a892f3c136fa6cfb452e6835d584f9e1474d79a3e90cb3f9a76f60a95", func := "enclave/enclavelaw01.CharsCuts", spec := "charsCuts", inPlace := ["internal/bytealg.IndexByteString"], unfollowed := true, recurses := true, apart := false, narrowed := true }
def CharsCutsUptoSaid : Prop := charsCutsUptoRow.holds Try.pinned (OpenSpec.upto charsCutsSpec)

/-- 'enclavelaw01.CharsLines', WHERE WHAT IT READS IS OF BULK AT MOST 1048576: true; the input reads as it did. -/
def charsLinesUptoRow : OpenClaim := { program := "ytoodlanmgboegaa", sum := "2690b07a892f3c136fa6cfb452e6835d584f9e1474d79a3e90cb3f9a76f60a95", func := "enclave/enclavelaw01.CharsLines", spec := "charsLines", inPlace := ["internal/bytealg.IndexByteString", "internal/bytealg.Count", "internal/bytealg.IndexByte", "internal/bytealg.Index"], unfollowed := true, recurses := true, named := ["internal/bytealg.MaxLen"], apart := false, narrowed := true }
def CharsLinesUptoSaid : Prop := charsLinesUptoRow.holds Try.pinned (OpenSpec.upto charsLinesSpec)

end Rows
end Go.Proofs.Ytoodlanmgboegaa
