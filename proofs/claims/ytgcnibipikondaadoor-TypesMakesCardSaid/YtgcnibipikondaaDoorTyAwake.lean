/- The walk of the document's example. -/
import Derived.Test.YtgcnibipikondaaDoorTyFn
import Derived.Test.YtgcnibipikondaaDoorTyText
namespace Go.Proofs.YtgcnibipikondaaDoor
open Go.RowKit
set_option linter.unusedVariables false
namespace Types

/-- The variables that layer 8 reads. -/
def Laid (w : World) : Prop := KidsLaid w ∧ NumLaid w
theorem Laid.below {w W : World} (h : Laid w) (hb : Below w.heap.size w W) : Laid W := ⟨h.1.below hb, h.2.below hb⟩
def tyInt : Ty := .node ⟨1, 0⟩ []
theorem fn_two : fnT [tyInt, tyInt] = .node ⟨4, 0⟩ [tyInt, tyInt] := rfl
theorem ex_may : mayT (.node ⟨4, 0⟩ [tyInt, tyInt]) = true := by
  show allT nodeB _ = true
  unfold tyInt
  rw [allT_eq]; simp only [Ty.h, Ty.ks]; rw [allK_cons, allK_cons, allK_nil, allT_eq]; simp only [Ty.h, Ty.ks]; rw [allK_nil]
  decide
def exText : ByteArray := ⟨#[105, 110, 116, 32, 45, 62, 32, 105, 110, 116]⟩
theorem w_fnA : wordsT (.node ⟨4, 0⟩ [.node ⟨1, 0⟩ [], .node ⟨1, 0⟩ []]) = [wInt, wArrow, wInt] := by
  rw [wordsT_eq]; simp only [Ty.h, Ty.ks, wordsK_cons, wordsK_nil]; rw [wordsT_eq]; simp only [Ty.h, Ty.ks, wordsK_nil]; rfl
theorem ex_text : jb (wordsT (.node ⟨4, 0⟩ [tyInt, tyInt])) = exText := by
  unfold tyInt
  rw [w_fnA]
  decide +kernel
theorem wt_int : wt tyInt = 1 := by unfold tyInt; rw [wt_ks]; simp only [Ty.ks]; rw [wts_nil]
theorem wt_ex : wt (.node ⟨4, 0⟩ [tyInt, tyInt]) = 3 := by rw [wt_ks]; simp only [Ty.ks]; rw [wts_cons, wts_cons, wts_nil, wt_int]

set_option maxRecDepth 10000 in
set_option maxHeartbeats 6400000 in
theorem awake_walk (w : World) (hl : Laid w) :
    Calls Tryd.prog 9 #[] w fun e w' => e = .returned (.bool true) ∧ Below w.heap.size w w' := by
  have HL := Lib.hid hl
  clear hl
  go_enter Tryd.func9, Tryd.ntmps9
  go_wp2_with (fail)
  refine (int_walk _).mono ?_
  rintro e w1 ⟨q1, c1, rfl, hT1, hb1⟩
  have HT1 := Lib.hid (hT1.reads' (veil_reads _ _)); have HB1 := Lib.hid hb1
  clear hT1 hb1
  go_wp2_with (fail)
  refine (int_walk _).mono ?_
  rintro e w2 ⟨q2, c2, rfl, hT2, hb2⟩
  have hT1' := HT1.out.below hb2
  have hk := kids_two hT1' (hT2.reads' (veil_reads _ _)) 24 w2.heap.size rfl
  have hfn := fn_walk [tyInt, tyInt] _ 2 2 _ (by rw [wts_cons, wts_cons, wts_nil, wt_int]; omega) rfl (by omega) hk
  have HFN := Lib.hid hfn; have HB2 := Lib.hid (below_then HB1.out hb2 HB1.out.size)
  clear hT2 hb2 hT1' hk hfn
  go_wp2_with (fail)
  refine HFN.out.mono ?_
  rintro e w3 ⟨h, q3, l3, c3, rfl, hT3, hb3⟩
  rw [fn_two] at hT3
  have HB3 := Lib.hid (below_row HB2.out hb3 HB2.out.size)
  have htx := text_walk _ h q3 l3 c3 w3 (hT3.reads' (veil_reads _ _)) (by rw [wt_ex]; omega) (HL.out.1.below HB3.out) (HL.out.2.below HB3.out)
  have HTX := Lib.hid htx
  clear hT3 hb3 htx
  go_wp2_with (fail)
  refine HTX.out.mono ?_
  rintro e w4 ⟨rfl, hb4⟩
  obtain ⟨e1, e2⟩ := text_yes ex_may
  rw [e1, e2, ex_text]
  have HB4 := Lib.hid (below_then HB3.out hb4 HB3.out.size)
  clear hb4 e1 e2
  unfold exText
  go_wp2_with (fail)
  go_ret
  exact ⟨rfl, HB4.out⟩
end Types
end Go.Proofs.YtgcnibipikondaaDoor
