/- The walk of layer 9's example. -/
import Derived.Test.YtjchplgapaeagaaDoorGV27
namespace Go.Proofs.YtjchplgapaeagaaDoor
open Go.RowKit
set_option linter.unusedVariables false
set_option linter.unusedSimpArgs false
namespace Types

/-- A new book's place. -/
def kN (s : Nat) : Bk := ⟨s + 2, s, s + 1⟩
theorem pk_false (k : Bk) : PK k k.b = false ∧ PK k k.s = false ∧ PK k k.i = false := by unfold PK; simp
theorem pk_true {k : Bk} {b : Nat} (h : b ≠ k.b ∧ b ≠ k.s ∧ b ≠ k.i) : PK k b = true := decide_eq_true h
def cI : List Value := [.int .u8 1, .int .i64 0, .slice none 0 0]
/-- The blocks of the example, as they are laid. -/
def awW (w : World) (N : Nat) : World := ((((w.alloc (.cells #[.int .u8 5, .int .i64 0, .slice none 0 0] 25)).alloc (.cells #[.int .u8 5, .int .i64 1, .slice none 0 0] 25)).alloc (.cells #[.int .u8 1, .int .i64 0, .slice none 0 0, .int .u8 5, .int .i64 1, .slice none 0 0] 25)).alloc
  (.cells #[.int .u8 2, .int .i64 0, .slice (some ⟨N + 1 + 1, 0, none⟩) 2 2] 25)).alloc (.cells #[.int .u8 5, .int .i64 0, .slice none 0 0, .int .u8 2, .int .i64 0, .slice (some ⟨N + 1 + 1, 0, none⟩) 2 2] 25)
def pT : Ty := tPair tInt (tyV 1)
theorem aw_facts (w : World) (P : Nat → Bool) (hP : ∀ b, w.heap.size ≤ b → P b = true) : Below w.heap.size w (awW w w.heap.size) ∧ (awW w w.heap.size).heap.size = w.heap.size + 5 ∧
    (awW w w.heap.size).heap[w.heap.size]? = some (.cells #[.int .u8 5, .int .i64 0, .slice none 0 0] 25 (0, 0)) ∧
    (awW w w.heap.size).heap[w.heap.size + 1 + 1 + 1]? = some (.cells #[.int .u8 2, .int .i64 0, .slice (some ⟨w.heap.size + 1 + 1, 0, none⟩) 2 2] 25 (0, 0)) ∧
    Kids (veil P (awW w w.heap.size)) (some ⟨w.heap.size + 1 + 1, 0, none⟩) [tInt, tyV 1] ∧ Kids (veil P (awW w w.heap.size)) (some ⟨w.heap.size + 1 + 1 + 1 + 1, 0, none⟩) [tyV 0, pT] := by
  obtain ⟨N, hN⟩ : ∃ N, N = w.heap.size := ⟨_, rfl⟩
  obtain ⟨W, hW⟩ : ∃ W, W = awW w w.heap.size := ⟨_, rfl⟩
  have hb : Below w.heap.size w W := by rw [hW]; exact ((((al_new _).alloc (by simp) _).alloc (by simp; omega) _).alloc (by simp; omega) _).alloc (by simp; omega) _
  have x0 : W.heap[N]? = some (.cells #[.int .u8 5, .int .i64 0, .slice none 0 0] 25 (0, 0)) := by rw [hW, hN]; exact at_more (at_more (at_more (at_more (at_new rfl))))
  have x2 : W.heap[N + 1 + 1]? = some (.cells #[.int .u8 1, .int .i64 0, .slice none 0 0, .int .u8 5, .int .i64 1, .slice none 0 0] 25 (0, 0)) := by rw [hW, hN]; exact at_more (at_more (at_new (by simp)))
  have x3 : W.heap[N + 1 + 1 + 1]? = some (.cells #[.int .u8 2, .int .i64 0, .slice (some ⟨N + 1 + 1, 0, none⟩) 2 2] 25 (0, 0)) := by rw [hW, hN]; exact at_more (at_new (by simp))
  have x4 : W.heap[N + 1 + 1 + 1 + 1]? = some (.cells #[.int .u8 5, .int .i64 0, .slice none 0 0, .int .u8 2, .int .i64 0, .slice (some ⟨N + 1 + 1, 0, none⟩) 2 2] 25 (0, 0)) := by rw [hW, hN]; exact at_new (by simp)
  have hz : W.heap.size = N + 5 := by rw [hW, hN]; unfold awW; simp
  rw [← hW] at *
  rw [← hN] at hP hb ⊢
  have k1 : Kids (veil P W) (some ⟨N + 1 + 1, 0, none⟩) [tInt, tyV 1] := kids_blk x2 (hP _ (by omega)) (flat_two (tInt_is _) (tyV_is _ (v := 1) (by omega)))
  exact ⟨hb, hz, x0, x3, k1, kids_blk x4 (hP _ (by omega)) (flat_two (tyV_is _ (v := 0) (by omega)) (tPair_is (by unfold maxLen; omega) k1))⟩
theorem pT_sen : IsSen (fun θ => True ∧ AllOne [tyV 0, pT] θ) (upd tyV 0 pT) := by
  refine isSen_iff (fun θ => ?_) (isSen_one (x := 0) (t := pT) (may_tPair may_tInt (may_V 1)) (by unfold pT; rw [vars_tPair, vars_tInt, vars_var]; simp) (fun h => by cases h))
  rw [allOne_two, inst_var]
  simp
theorem pT_has : hasB 2 pT = true := hasB_of (may_tPair may_tInt (may_V 1)) fun v hv => by
  unfold pT at hv
  rw [vars_tPair, vars_tInt, vars_var] at hv
  simp at hv
  omega
theorem pT_nv : nvK [tyV 0, pT] ≤ 10 := by
  rw [nvK_cons, nvK_cons, nvK_nil, nv_var]
  unfold pT tPair tInt
  rw [nv_eq]
  show _ + (_ + nvK [_, _] + _) ≤ _
  rw [nvK_cons, nvK_cons, nvK_nil, nv_var, nv_eq]
  show _ + (_ + (_ + nvK [] + _) + _) ≤ _
  rw [nvK_nil]
  decide
theorem pT_out : outE 2 (upd tyV 0 pT) (tyV 0) 9 = 0 ∧ outT 2 (upd tyV 0 pT) (tyV 0) 9 = pT := by
  have h1 : hasB 2 (tyV 0) = true := hasB_tyV (by omega)
  have h2 : inst (upd tyV 0 pT) (tyV 0) = pT := by rw [inst_var, upd_same]
  have h3 : wt pT = 3 := by unfold pT; rw [wt_tPair, wt_tInt, wt_tyV]
  unfold outE outT
  rw [h1, h2, h3]
  exact ⟨rfl, rfl⟩
theorem Kp.low_blocks {k : Bk} {w w' : World} (h : Kp (PK k) w w') {b : Nat} (hb : b < w.heap.size) (h1 : b ≠ k.b ∧ b ≠ k.s ∧ b ≠ k.i) : w'.heap[b]? = w.heap[b]? := h.block b hb (pk_true h1)
set_option maxRecDepth 100000 in
set_option maxHeartbeats 12800000 in
theorem awake_walk (w : World) (hkl : KidsLaid w) :
    Calls Tryd.prog 10 #[] w fun e w' => e = .returned (.bool true) ∧ Below w.heap.size w w' := by
  have HKL := Lib.hid hkl
  clear hkl
  go_enter Tryd.func10, Tryd.ntmps10
  go_wp2_with (fail)
  refine (bnew_walk (PK (kN w.heap.size)) w (pk_false _).2.1 (pk_false _).2.2 (pk_false _).1).mono ?_
  rintro e w1 ⟨rfl, hb1, hB1, hs1⟩
  have hB1 : Book (PK (kN w.heap.size)) (kN w.heap.size) w1 0 (fun _ => True) tyV 0 := hB1
  obtain ⟨k, hk⟩ : ∃ k, k = kN w.heap.size := ⟨_, rfl⟩
  have hkb : w.heap.size + 2 = k.b := by rw [hk]; rfl
  rw [← hk] at hB1
  rw [hkb]
  have HKE := Lib.hid (show k.b < w.heap.size + 3 ∧ w.heap.size ≤ k.b ∧ w.heap.size ≤ k.s ∧ w.heap.size ≤ k.i ∧ k.s < w.heap.size + 3 ∧ k.i < w.heap.size + 3 from by subst hk; unfold kN; exact ⟨by show _ + 2 < _; omega, by show _ ≤ _ + 2; omega, Nat.le_refl _, by show _ ≤ _ + 1; omega, by show w.heap.size < _; omega, by show _ + 1 < _; omega⟩)
  have HB1 := Lib.hid hB1; have HW1 := Lib.hid (And.intro hb1 hs1)
  clear hB1 hb1 hs1 hk hkb
  go_wp2_with (fail)
  refine (bfresh_walk w1 HB1.out (by omega)).mono ?_
  rintro e w2 ⟨rfl, hB2, hk2⟩
  have HB2 := Lib.hid hB2; have HK2 := Lib.hid hk2
  clear hB2 hk2 HB1
  go_wp2_with (fail)
  refine (bfresh_walk w2 HB2.out (by omega)).mono ?_
  rintro e w3 ⟨rfl, hB3, hk3⟩
  have HB3 := Lib.hid hB3; have HK3 := Lib.hid (HK2.out.trans hk3)
  clear hB3 hk3 HB2 HK2
  go_wp2_with (fail)
  have hpb : ∀ b, w3.heap.size ≤ b → PK k b = true := fun b hb => pk_true (by have h1 := HKE.out; have h2 := HW1.out.2; have h3 := HK3.out.size; omega)
  have hfx := aw_facts w3 (PK k) hpb
  obtain ⟨W4, hW4⟩ : ∃ W4, awW w3 w3.heap.size = W4 := ⟨_, rfl⟩
  rw [hW4] at hfx
  unfold awW at hW4
  rw [hW4]
  obtain ⟨hb4, hz4, x0, x3, k1, k2⟩ := hfx
  have hbb : Below w.heap.size w W4 := by
    have h0 := HW1.out
    have h3 := HK3.out
    have hk := HKE.out
    refine ⟨hb4.os.trans (h3.os.trans h0.1.os), hb4.tape.trans (h3.tape.trans h0.1.tape), hb4.output.trans (h3.output.trans h0.1.output), Nat.le_trans h0.1.size (Nat.le_trans h3.size hb4.size), fun b hb => (hb4.block b (by have := h3.size; omega)).trans ((h3.low_blocks (by omega) (by omega)).trans (h0.1.block b hb))⟩
  have hjw := bjoin_walk [tyV 0, pT] _ 2 2 W4 (HB3.out.below hb4) (fun b hb => hpb b (by omega)) (k2.reads' (veil_reads _ _)) k2 rfl (HKL.out.below hbb) (by have := pT_nv; omega)
  have HJW := Lib.hid hjw; have HX := Lib.hid (And.intro x0 x3); have HK1 := Lib.hid k1; have HBB := Lib.hid hbb; have HZ := Lib.hid hz4; have HPB := Lib.hid hpb
  clear hpb hb4 hz4 x0 x3 k1 k2 hbb hjw hW4 HB3 HK3
  go_wp2_with (fail)
  refine HJW.out.mono ?_
  rintro e w5 ⟨hk5, ⟨-, hB5, hno⟩ | ⟨rfl, -, σ, hB5⟩⟩
  · exfalso
    rcases hno with ⟨t, ht, hh⟩ | hno
    · simp only [List.mem_cons, List.not_mem_nil, or_false] at ht
      rcases ht with rfl | rfl
      · rw [hasB_tyV (by omega)] at hh; cases hh
      · rw [pT_has] at hh; cases hh
    · exact hno _ pT_sen.is
  have hσ : σ = upd tyV 0 pT := isSen_eq hB5.isSen pT_sen
  subst hσ
  have hlt : w3.heap.size + 5 ≤ w5.heap.size := by have := hk5.size; have := HZ.out; omega
  have y0 := (hk5.block w3.heap.size (by have := HZ.out; omega) (HPB.out _ (Nat.le_refl _))).trans HX.out.1
  have y3 := (hk5.block (w3.heap.size + 1 + 1 + 1) (by have := HZ.out; omega) (HPB.out _ (by omega))).trans HX.out.2
  have hb5 : Below w.heap.size w w5 := by
    have hk := HKE.out
    have h0 := HBB.out
    have h1 := HW1.out
    refine ⟨hk5.os.trans h0.os, hk5.tape.trans h0.tape, hk5.output.trans h0.output, Nat.le_trans h0.size hk5.size, fun b hb => (hk5.low_blocks (Nat.lt_of_lt_of_le hb h0.size) (by omega)).trans (h0.block b hb)⟩
  have k15 := hk5.kids (HK1.out)
  have hsw := bsense_walk ⟨5, 0⟩ none 0 0 (tyV 0) 9 w5 hB5 (tyV_is _ (v := 0) (by omega)) (tyV_is _ (v := 0) (by omega)) (HKL.out.below hb5) (by omega) (by have := pT_nv; omega) (by rw [wt_tyV]; omega) (by omega)
  rw [pT_out.1, pT_out.2] at hsw
  have HSW := Lib.hid hsw; have HB5 := Lib.hid hb5; have HK5 := Lib.hid k15; have HY3 := Lib.hid y3; have HLT := Lib.hid hlt
  clear hk5 hsw hb5 k15 hlt HJW HX HK1 HBB hB5
  obtain ⟨⟨a0, a1, a2⟩, -, al⟩ := c3 y0
  go_wp2_with (fail)
  refine HSW.out.mono ?_
  rintro e w6 ⟨hB6, hk6, h6, q6, l6, c6, rfl, hT6⟩
  have hb6 : Below w.heap.size w w6 := by
    have hk := HKE.out
    have h0 := HB5.out
    have h1 := HW1.out
    refine ⟨hk6.os.trans h0.os, hk6.tape.trans h0.tape, hk6.output.trans h0.output, Nat.le_trans h0.size hk6.size, fun b hb => (hk6.low_blocks (Nat.lt_of_lt_of_le hb h0.size) (by omega)).trans (h0.block b hb)⟩
  have y3' := (hk6.block _ (lt_of_block HY3.out) (HPB.out _ (by omega))).trans HY3.out
  have HB6 := Lib.hid hB6; have HBL6 := Lib.hid hb6; have HY6 := Lib.hid y3'; have HK6 := Lib.hid (hk6.kids HK5.out); have HT6 := Lib.hid hT6; have HLE6 := Lib.hid hk6.size
  clear hB6 hk6 hT6 hb6 y3' y3 y0 a0 a1 a2 al HSW HB5 HK5 HY3
  obtain ⟨⟨a0, a1, a2⟩, -, al⟩ := c3 HY6.out
  obtain ⟨k6, v6⟩ := h6
  go_wp2_with (fail)
  have hal := al_new (W := w6) (.cells #[.int .u8 k6, .int .i64 v6, .slice q6 l6 c6] 25)
  refine (refSame_walk _ pT pT ⟨k6, v6⟩ ⟨2, 0⟩ q6 (some ⟨w3.heap.size + 1 + 1, 0, none⟩) l6 c6 2 2 _ (Nat.le_refl _) ((HT6.out.reads' (veil_reads _ _)).below hal) (tPair_is (by unfold maxLen; omega) ((HK6.out.reads' (veil_reads _ _)).stay hal))).mono ?_
  rintro e w7 ⟨rfl, hb7⟩
  have hb67 : Below w6.heap.size w6 w7 := hal.trans (hb7.mono (by simp))
  have hbv := bvars_walk w7 (HB6.out.below hb67)
  have HBV := Lib.hid hbv; have HB7 := Lib.hid (HBL6.out.trans (hb67.mono HBL6.out.size))
  have hsame : sameT pT pT = true := (same_iff pT pT).2 rfl
  rw [hsame]
  clear hal hb7 hb67 hbv a0 a1 a2 al hsame
  go_wp2_with (fail)
  refine HBV.out.mono ?_
  rintro e w8 ⟨rfl, rfl⟩
  go_wp2_with (fail)
  go_ret
  exact ⟨rfl, HB7.out⟩
end Types
end Go.Proofs.YtjchplgapaeagaaDoor
