/- The walk of the program's look at a node: all kinds. -/
import Derived.Test.YtpedmaomogigmaaDoorTermFitsA
import Derived.Test.YtpedmaomogigmaaDoorTermFitsB
import Derived.Test.YtpedmaomogigmaaDoorTermFitsC
import Derived.Test.YtpedmaomogigmaaDoorTermFitsD
namespace Go.Proofs.YtpedmaomogigmaaDoor
open Go.RowKit
set_option linter.unusedVariables false
namespace Term
open Words (nameB exnB)

theorem fits_walk' (h : Hd) (p : Option Addr) (l c : Nat) (w : World) (ho : HdOk h) (hl : l ≤ maxLen) (hkw : Words.KwLaid w) :
    Calls Tryd.prog 25 #[.agg #[.int .u8 h.k, .int .u8 h.op, .int .i64 h.pl, .int .i64 h.n, .string h.name, .string h.arg, .string h.exn, .slice p l c]] w fun e w' => e = .returned (.bool (nodeB h l)) ∧ Below w.heap.size w w' := by
  obtain ⟨k, op, pl, nn, nm, ar, ex⟩ := h
  obtain ⟨h1, h2, h3, h4, h5, h6, h7⟩ := ho
  by_cases hk : 1 ≤ k ∧ k ≤ 16
  · have hh : k = 1 ∨ k = 2 ∨ k = 3 ∨ k = 4 ∨ k = 5 ∨ k = 6 ∨ k = 7 ∨ k = 8 ∨ k = 9 ∨ k = 10 ∨ k = 11 ∨ k = 12 ∨ k = 13 ∨ k = 14 ∨ k = 15 ∨ k = 16 := by omega
    clear hk
    rcases hh with rfl | rfl | rfl | rfl | rfl | rfl | rfl | rfl | rfl | rfl | rfl | rfl | rfl | rfl | rfl | rfl
    · exact fits_1 op pl nn nm ar ex p l c w h2 hl h5 h6 h7 hkw
    · exact fits_2 op pl nn nm ar ex p l c w h2 hl h5 h6 h7 hkw
    · exact fits_3 op pl nn nm ar ex p l c w h2 hl h5 h6 h7 hkw
    · exact fits_4 op pl nn nm ar ex p l c w h2 hl h5 h6 h7 hkw
    · exact fits_5 op pl nn nm ar ex p l c w h2 hl h5 h6 h7 hkw
    · exact fits_6 op pl nn nm ar ex p l c w h2 hl h5 h6 h7 hkw
    · exact fits_7 op pl nn nm ar ex p l c w h2 hl h5 h6 h7 hkw
    · exact fits_8 op pl nn nm ar ex p l c w h2 hl h5 h6 h7 hkw
    · exact fits_9 op pl nn nm ar ex p l c w h2 hl h5 h6 h7 hkw
    · exact fits_10 op pl nn nm ar ex p l c w h2 hl h5 h6 h7 hkw
    · exact fits_11 op pl nn nm ar ex p l c w h2 hl h5 h6 h7 hkw
    · exact fits_12 op pl nn nm ar ex p l c w h2 hl h5 h6 h7 hkw
    · exact fits_13 op pl nn nm ar ex p l c w h2 hl h5 h6 h7 hkw
    · exact fits_14 op pl nn nm ar ex p l c w h2 hl h5 h6 h7 hkw
    · exact fits_15 op pl nn nm ar ex p l c w h2 hl h5 h6 h7 hkw
    · exact fits_16 op pl nn nm ar ex p l c w h2 hl h5 h6 h7 hkw
  · exact fits_other k op pl nn nm ar ex p l c w (by omega)
end Term
end Go.Proofs.YtpedmaomogigmaaDoor
