/- The walk of layer 6's statement on a term's text. -/
import Derived.Test.YtanbjakknnmfgaaGreatDoorGShowC
import Derived.Test.YtanbjakknnmfgaaGreatDoorGShowE
import Derived.Test.YtanbjakknnmfgaaGreatDoorGTermD
namespace Go.Proofs.YtanbjakknnmfgaaGreatDoor
open Go.RowKit
set_option linter.unusedVariables false
set_option linter.unusedSimpArgs false
namespace Show
open Term (Tm Hd TmIs Kids tget wt wts okT okK mayT greatB)
open Token (jb)

theorem mayP_nil (t : Tm) : mayP [] t = mayT t := by unfold mayP allExn; simp
set_option maxRecDepth 10000 in
set_option maxHeartbeats 6400000 in
theorem showIs_walk (h : Hd) (p : Option Addr) (l c : Nat) (t : Tm) (w : World) (hT : TmIs w h p l c t) (hl : Words.Laid2 w) :
    Calls Tryz.prog 7 #[.agg #[.int .u8 h.k, .int .u8 h.op, .int .i64 h.pl, .int .i64 h.n, .string h.name, .string h.arg, .string h.exn, .slice p l c]] w fun e w' => e = .returned (.bool true) ∧ Below w.heap.size w w' := by
  have hbox : ∀ O : Obj, Below w.heap.size w (w.alloc O) := fun O => (Below.refl _ _).alloc (Nat.le_refl _) O
  have hgr := fun W (hb : Below w.heap.size w W) => Term.great_walk t h p l c W (hT.below hb)
  have hsh := fun W (hb : Below w.heap.size w W) => showTerm_walk h p l c t W (hT.below hb) (hl.below hb)
  have haw := fun W (hb : Below w.heap.size w W) => awake_walk W (hl.below hb)
  have hmy := fun W (hb : Below w.heap.size w W) (hw : wt t ≤ 4000) => Term.refMay_walk t h p l c W (hT.below hb) hw
  have htx := fun W (hb : Below w.heap.size w W) (hw : wt t ≤ 4000) (hok : okT t = true) => text_all w (wt t) t h p l c W (Nat.le_refl _) hw hok hT hb
  obtain ⟨k, op, pl, nn, nm, ar, ex⟩ := h
  have hX : ∀ W, Below (w.alloc (.cells #[.int .u8 k, .int .u8 op, .int .i64 pl, .int .i64 nn, .string nm, .string ar, .string ex, .slice p l c] 29)).heap.size (w.alloc (.cells #[.int .u8 k, .int .u8 op, .int .i64 pl, .int .i64 nn, .string nm, .string ar, .string ex, .slice p l c] 29)) W → W.heap[w.heap.size]? = some (.cells #[.int .u8 k, .int .u8 op, .int .i64 pl, .int .i64 nn, .string nm, .string ar, .string ex, .slice p l c] 29 (0, 0)) :=
    fun W hb => (hb.block _ (by simp)).trans (heap_alloc_new w _)
  have HGR := Lib.hid hgr; have HSH := Lib.hid hsh; have HAW := Lib.hid haw; have HMY := Lib.hid hmy; have HTX := Lib.hid htx; have HX := Lib.hid hX; have HBOX := Lib.hid hbox
  clear hgr hsh haw hmy htx hX hbox hT hl
  go_enter Tryz.func7, Tryz.ntmps7
  go_wp2_with (fail)
  refine (HGR.out _ (HBOX.out _)).mono ?_
  rintro e w1 ⟨rfl, hb1⟩
  have HC1 := Lib.hid hb1
  have HB1 := Lib.hid ((HBOX.out _).trans (hb1.mono (by simp : w.heap.size ≤ _)))
  obtain ⟨⟨b0, b1, b2, b3, b4, b5, b6, b7⟩, f0, f1, f2, f3, f4, f5, f6, f7⟩ := Parse.cells8' (HX.out _ hb1)
  have bl := World.block_lt_of_cell? w1 _ b0
  clear hb1
  cases hg : greatB t
  rotate_left
  · clear hg
    go_wp2_with (fail)
    refine (HAW.out _ HB1.out).mono ?_
    rintro e w2 ⟨rfl, hb2⟩
    have HB2 := Lib.hid (Term.below_then HB1.out hb2 HB1.out.size)
    clear hb2 b0 b1 b2 b3 b4 b5 b6 b7 f0 f1 f2 f3 f4 f5 f6 f7 bl
    go_wp2_with (fail)
    go_ret
    exact ⟨rfl, HB2.out⟩
  · have hwt : wt t ≤ 4000 := by have := (Term.small_of hg).1; omega
    have HWT := Lib.hid hwt
    clear hg hwt
    go_wp2_with (fail)
    refine (HSH.out _ HB1.out).mono ?_
    rintro e w2 ⟨rfl, hb2⟩
    have HC2 := Lib.hid (Term.below_then HC1.out hb2 HC1.out.size)
    have HB2 := Lib.hid (Term.below_then HB1.out hb2 HB1.out.size)
    clear hb2 b0 b1 b2 b3 b4 b5 b6 b7 f0 f1 f2 f3 f4 f5 f6 f7 bl
    obtain ⟨⟨b0, b1, b2, b3, b4, b5, b6, b7⟩, f0, f1, f2, f3, f4, f5, f6, f7⟩ := Parse.cells8' (HX.out _ HC2.out)
    have bl := World.block_lt_of_cell? w2 _ b0
    have hy := @show_yes [] t
    have hn := @show_no [] t
    rw [mayP_nil] at hy hn
    have HY := Lib.hid hy; have HN := Lib.hid hn
    clear hy hn
    generalize showS [] t = S at *
    generalize showE [] t = E at *
    go_wp2_with (fail)
    refine (HMY.out _ HB2.out HWT.out).mono ?_
    rintro e w3 ⟨rfl, hb3⟩
    have HC3 := Lib.hid (Term.below_then HC2.out hb3 HC2.out.size)
    have HB3 := Lib.hid (Term.below_then HB2.out hb3 HB2.out.size)
    clear hb3 b0 b1 b2 b3 b4 b5 b6 b7 f0 f1 f2 f3 f4 f5 f6 f7 bl
    obtain ⟨⟨b0, b1, b2, b3, b4, b5, b6, b7⟩, f0, f1, f2, f3, f4, f5, f6, f7⟩ := Parse.cells8' (HX.out _ HC3.out)
    have bl := World.block_lt_of_cell? w3 _ b0
    cases hm : mayT t
    · obtain ⟨rfl, rfl⟩ := HN.out hm
      clear hm b0 b1 b2 b3 b4 b5 b6 b7 f0 f1 f2 f3 f4 f5 f6 f7 bl
      go_wp2_with (fail)
      refine (HAW.out _ HB3.out).mono ?_
      rintro e w4 ⟨rfl, hb4⟩
      have HB4 := Lib.hid (Term.below_then HB3.out hb4 HB3.out.size)
      clear hb4
      go_wp2_with (fail)
      go_ret
      exact ⟨rfl, HB4.out⟩
    · obtain ⟨e1, rfl⟩ := HY.out hm
      have hok : okT t = true := by unfold mayT at hm; rw [Bool.and_eq_true] at hm; exact hm.2
      have heq : S = jb (wordsT t) := e1
      subst heq
      have htx := HTX.out _ HB3.out HWT.out hok
      have heq2 : ((jb (wordsT t)).toList == (jb (wordsT t)).toList) = true := by simp
      have HTT := Lib.hid htx
      clear hm hok htx e1
      generalize jb (wordsT t) = J at *
      go_wp2_with (fail)
      refine HTT.out.mono ?_
      rintro e w4 ⟨rfl, hb4⟩
      have HB4 := Lib.hid (Term.below_then HB3.out hb4 HB3.out.size)
      clear hb4 b0 b1 b2 b3 b4 b5 b6 b7 f0 f1 f2 f3 f4 f5 f6 f7 bl
      go_wp2_with (fail)
      refine (HAW.out _ HB4.out).mono ?_
      rintro e w5 ⟨rfl, hb5⟩
      have HB5 := Lib.hid (Term.below_then HB4.out hb5 HB4.out.size)
      clear hb5
      go_wp2_with (fail)
      go_ret
      exact ⟨rfl, HB5.out⟩
end Show
end Go.Proofs.YtanbjakknnmfgaaGreatDoor
