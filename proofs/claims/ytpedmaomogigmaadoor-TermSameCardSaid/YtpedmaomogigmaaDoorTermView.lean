/- How terms, and slices of them, come in as arguments. -/
import Derived.Test.YtpedmaomogigmaaDoorTermData
namespace Go.Proofs.YtpedmaomogigmaaDoor
open Go.RowKit Go.ChangeShapes Go.WideShapes Go.Deep
set_option linter.unusedVariables false
namespace Term

/-- A slice of terms, as memory holds it. -/
def IsTms (w : World) (a : Option Addr) (len cap : Nat) (ts : List Tm) : Prop := ts.length = len ∧ len ≤ cap ∧ cap ≤ maxLen ∧ Kids w a ts
section
variable {H : Type} {enc : TypeId × Value → H} {w : World} {base : Nat} {sp : Nat → Bool} {held : Bool}
theorem open_tm {fuel : Nat} {cs : Array Value} {y : DataW H × List MemPlace} (h : DataW.trod enc Tryd.prog w base sp held fuel 26 (Value.agg cs).cells.toList = some y) :
    ∃ h p l c t, cs = #[.int .u8 h.k, .int .u8 h.op, .int .i64 h.pl, .int .i64 h.n, .string h.name, .string h.arg, .string h.exn, .slice p l c] ∧ TmIs w h p l c t := by
  obtain ⟨hd, p, l, c, t, hc, hT⟩ := (open_all fuel).1 _ _ h
  refine ⟨hd, p, l, c, t, ?_, hT⟩
  have h1 : cs.toList = tcells hd p l c := hc
  exact Array.toList_inj.1 h1
theorem open_tms {fuel : Nat} {a : Option Addr} {len cap : Nat} {y : DataW H × List MemPlace} (h : DataW.trod enc Tryd.prog w base sp held fuel 24 (Value.slice a len cap).cells.toList = some y) : ∃ ts, IsTms w a len cap ts := by
  obtain ⟨p, l, c, ts, hc, h1, h2, h3, h4⟩ := (open_all fuel).2 _ _ h
  have h5 : [Value.slice a len cap] = [.slice p l c] := hc
  injection h5 with h5
  injection h5 with e1 e2 e3
  subst e1 e2 e3
  exact ⟨ts, h1, h2, h3, h4⟩
end
end Term
end Go.Proofs.YtpedmaomogigmaaDoor
