/-The program's look at a node. (Written by wip/tools/atfits2.py.) The program's May of terms with regions. (Written by wip/tools/atsizep.py.) The walks of Erase, the program's and the document's. (Written by wip/tools/aterase2.py.) -/
import Derived.Test.YtolpdhkgkjnbfaaDoorGC11
import Derived.Test.YtolpdhkgkjnbfaaDoorGC08
import Derived.Test.YtolpdhkgkjnbfaaDoorGC06
import Derived.Test.YtolpdhkgkjnbfaaDoorGC07
import Derived.Test.YtolpdhkgkjnbfaaDoorGC10
import Derived.Deep.RegionHeld3
namespace Go.Proofs.YtolpdhkgkjnbfaaDoor
open Go.RowKit
set_option linter.unusedVariables false
set_option linter.unusedSimpArgs false
namespace Aterm
open Effect (RdI nget nget_at nget_mem ret_bool ret_i64 lt_of_block heap_alloc_new ofA)
open Rt (box_new box_at below_then)

theorem small_ok2 {h : Hd} {n : Nat} (hs : smallB h n = true) : h.rhos.length ≤ 50 ∧ (h.e.length ≤ 100 ∧ ∀ x ∈ h.e, x.x.size ≤ 100) ∧ Rt.allT (Rt.effB 100000) h.ty = true ∧ Rt.allT (Rt.effB 100000) h.re = true := by
  unfold smallB at hs
  obtain ⟨h1, h2, h3, h4⟩ := long_no (by simpa using hs)
  have up : ∀ t : Rt.RT, Rt.greatT t = false → Rt.allT (Rt.effB 100000) t = true := fun t ht =>
    (Rt.all_imp (fun h n hh => Rt.eff_iff.2 (by have := Rt.eff_iff.1 hh; exact ⟨by omega, fun x hx => by have := this.2 x hx; omega⟩)) _).1 t (Nat.le_refl _) (Rt.small_eff ht).2
  exact ⟨h1.2.2.2, Effect.great_no h2, up _ h3, up _ h4⟩
set_option maxRecDepth 10000 in
set_option maxHeartbeats 6400000 in
theorem fits_walk (t : AT) (h : Hd) (v : V) (l : Nat) (w : World) (hT : AtIs w h v l t) (hs : smallB h l = true) (hkw : Words.KwLaid w) :
    Calls Tryd.prog 31 #[.agg #[.int .u8 h.h.k, .int .u8 h.h.op, .int .i64 h.h.pl, .int .i64 h.h.n, .string h.h.name, .string h.h.arg, .string h.h.exn, .int .i64 h.rho, .slice v.ra h.rhos.length v.rc, .slice v.ea h.e.length v.ec, .int .u8 h.ty.h.k, .int .i64 h.ty.h.r, .slice v.tea h.ty.h.e.length v.tec, .slice v.tka h.ty.ks.length v.tkc, .int .u8 h.re.h.k, .int .i64 h.re.h.r, .slice v.sea h.re.h.e.length v.sec, .slice v.ska h.re.ks.length v.skc, .slice v.ka l v.kc]] w fun e w' => e = .returned (.bool (nodeB h l)) ∧ Below w.heap.size w w' := by
  obtain ⟨r1, ⟨e1, _⟩, y1, z1⟩ := small_ok2 hs
  have hn : nodeB h l = (headOk h.h l && rhoOk h && rhosOk h && effOk h && typOk h && resOk h) := rfl
  have h1 := fun (W : World) (hb : Below w.heap.size w W) => headFits_walk t h v l W (hT.below hb) (hkw.below hb)
  have h2 := fun (W : World) (hb : Below w.heap.size w W) => rhoFits_walk t h v l W (hT.below hb)
  have h3 := fun (W : World) (hb : Below w.heap.size w W) => rhosFit_walk t h v l W (hT.below hb) (decide_eq_true r1)
  have h4 := fun (W : World) (hb : Below w.heap.size w W) => effFits_walk t h v l W (hT.below hb) (by omega)
  have h5 := fun (W : World) (hb : Below w.heap.size w W) => typeFits_walk t h v l W (hT.below hb) y1
  have h6 := fun (W : World) (hb : Below w.heap.size w W) => resFits_walk t h v l W (hT.below hb) z1
  have H1 := Lib.hid h1; have H2 := Lib.hid h2; have H3 := Lib.hid h3; have H4 := Lib.hid h4; have H5 := Lib.hid h5; have H6 := Lib.hid h6; have HN := Lib.hid hn
  clear h1 h2 h3 h4 h5 h6 hT hs hkw hn r1 e1 y1 z1
  go_enter Tryd.func31, Tryd.ntmps31
  go_upto_region 1 with (fail)
  obtain ⟨W0, hW0⟩ : ∃ W0, W0 = w.alloc (.cells #[.int .u8 h.h.k, .int .u8 h.h.op, .int .i64 h.h.pl, .int .i64 h.h.n, .string h.h.name, .string h.h.arg, .string h.h.exn, .int .i64 h.rho, .slice v.ra h.rhos.length v.rc, .slice v.ea h.e.length v.ec, .int .u8 h.ty.h.k, .int .i64 h.ty.h.r, .slice v.tea h.ty.h.e.length v.tec, .slice v.tka h.ty.ks.length v.tkc, .int .u8 h.re.h.k, .int .i64 h.re.h.r, .slice v.sea h.re.h.e.length v.sec, .slice v.ska h.re.ks.length v.skc, .slice v.ka l v.kc] 33) := ⟨_, rfl⟩
  have hbx : Box W0 w.heap.size h v l := by rw [hW0]; exact box_of (w := w) (h := h) (v := v) (l := l)
  have hb0 : Below w.heap.size w W0 := by rw [hW0]; exact box_new _
  rw [← hW0]
  clear hW0
  generalize hN0 : w.heap.size = N0 at hbx ⊢
  have HB0 := Lib.hid hb0; have HBX := Lib.hid hbx; have HRG := Lib.hid hbx.range
  obtain ⟨b0, b1, b2, b3, b4, b5, b6, b7, b8, b9, b10, b11, b12, b13, b14, b15, b16, b17, b18⟩ := hbx
  clear hb0 hN0 b0 b1 b2 b3 b4 b5 b6 b7 b8 b9 b10 b11 b12 b13 b14 b15 b16 b17 b18
  have HW0 := Lib.hid (Below.refl W0.heap.size W0)
  have hrg0 := range_below HRG.out HW0.out
  have HG0 := Lib.hid hrg0
  clear hrg0
  go_wp2_with (refine at_load rfl _ rfl N0 0 rfl HG0.out ?_)
  refine (H1.out _ (below_then HB0.out HW0.out HB0.out.size)).mono ?_
  rintro e1 w1 ⟨rfl, hb1⟩
  have HW1 := Lib.hid (HW0.out.trans (hb1.mono HW0.out.size))
  clear hb1 HG0
  have hn := HN.out
  cases hq1 : headOk h.h l
  · rw [hq1] at hn; simp only [Bool.false_and, Bool.and_false, Bool.true_and] at hn
    have HN2 := Lib.hid hn
    clear hn hq1
    go_wp2_with (fail)
    go_ret
    exact ⟨ret_bool HN2.out.symm, below_then HB0.out HW1.out HB0.out.size⟩
  rw [hq1] at hn; simp only [Bool.true_and] at hn
  clear HN
  have HN := Lib.hid hn
  clear hn hq1
  have hrg1 := range_below HRG.out HW1.out
  have HG1 := Lib.hid hrg1
  clear hrg1
  go_wp2_with (refine at_load_g (by rfl) _ rfl N0 0 rfl HG1.out ?_)
  refine (H2.out _ (below_then HB0.out HW1.out HB0.out.size)).mono ?_
  rintro e2 w2 ⟨rfl, hb2⟩
  have HW2 := Lib.hid (HW1.out.trans (hb2.mono HW1.out.size))
  clear hb2 HG1
  have hn := HN.out
  cases hq2 : rhoOk h
  · rw [hq2] at hn; simp only [Bool.false_and, Bool.and_false, Bool.true_and] at hn
    have HN2 := Lib.hid hn
    clear hn hq2
    go_wp2_with (fail)
    go_ret
    exact ⟨ret_bool HN2.out.symm, below_then HB0.out HW2.out HB0.out.size⟩
  rw [hq2] at hn; simp only [Bool.true_and] at hn
  clear HN
  have HN := Lib.hid hn
  clear hn hq2
  have hrg2 := range_below HRG.out HW2.out
  have HG2 := Lib.hid hrg2
  clear hrg2
  go_wp2_with (refine at_load_g (by rfl) _ rfl N0 0 rfl HG2.out ?_)
  refine (H3.out _ (below_then HB0.out HW2.out HB0.out.size)).mono ?_
  rintro e3 w3 ⟨rfl, hb3⟩
  have HW3 := Lib.hid (HW2.out.trans (hb3.mono HW2.out.size))
  clear hb3 HG2
  have hn := HN.out
  cases hq3 : rhosOk h
  · rw [hq3] at hn; simp only [Bool.false_and, Bool.and_false, Bool.true_and] at hn
    have HN2 := Lib.hid hn
    clear hn hq3
    go_wp2_with (fail)
    go_ret
    exact ⟨ret_bool HN2.out.symm, below_then HB0.out HW3.out HB0.out.size⟩
  rw [hq3] at hn; simp only [Bool.true_and] at hn
  clear HN
  have HN := Lib.hid hn
  clear hn hq3
  have hrg3 := range_below HRG.out HW3.out
  have HG3 := Lib.hid hrg3
  clear hrg3
  go_wp2_with (refine at_load_g (by rfl) _ rfl N0 0 rfl HG3.out ?_)
  refine (H4.out _ (below_then HB0.out HW3.out HB0.out.size)).mono ?_
  rintro e4 w4 ⟨rfl, hb4⟩
  have HW4 := Lib.hid (HW3.out.trans (hb4.mono HW3.out.size))
  clear hb4 HG3
  have hn := HN.out
  cases hq4 : effOk h
  · rw [hq4] at hn; simp only [Bool.false_and, Bool.and_false, Bool.true_and] at hn
    have HN2 := Lib.hid hn
    clear hn hq4
    go_wp2_with (fail)
    go_ret
    exact ⟨ret_bool HN2.out.symm, below_then HB0.out HW4.out HB0.out.size⟩
  rw [hq4] at hn; simp only [Bool.true_and] at hn
  clear HN
  have HN := Lib.hid hn
  clear hn hq4
  have hrg4 := range_below HRG.out HW4.out
  have HG4 := Lib.hid hrg4
  clear hrg4
  go_wp2_with (refine at_load_g (by rfl) _ rfl N0 0 rfl HG4.out ?_)
  refine (H5.out _ (below_then HB0.out HW4.out HB0.out.size)).mono ?_
  rintro e5 w5 ⟨rfl, hb5⟩
  have HW5 := Lib.hid (HW4.out.trans (hb5.mono HW4.out.size))
  clear hb5 HG4
  have hn := HN.out
  cases hq5 : typOk h
  · rw [hq5] at hn; simp only [Bool.false_and, Bool.and_false, Bool.true_and] at hn
    have HN2 := Lib.hid hn
    clear hn hq5
    go_wp2_with (fail)
    go_ret
    exact ⟨ret_bool HN2.out.symm, below_then HB0.out HW5.out HB0.out.size⟩
  rw [hq5] at hn; simp only [Bool.true_and] at hn
  clear HN
  have HN := Lib.hid hn
  clear hn hq5
  have hrg5 := range_below HRG.out HW5.out
  have HG5 := Lib.hid hrg5
  clear hrg5
  go_wp2_with (refine at_load_g (by rfl) _ rfl N0 0 rfl HG5.out ?_)
  refine (H6.out _ (below_then HB0.out HW5.out HB0.out.size)).mono ?_
  rintro e6 w6 ⟨rfl, hb6⟩
  have HW6 := Lib.hid (HW5.out.trans (hb6.mono HW5.out.size))
  clear hb6 HG5
  have hn := HN.out
  generalize hX : resOk h = X at *
  have HN2 := Lib.hid hn
  clear hn hX
  go_wp2_with (fail)
  go_ret
  exact ⟨ret_bool HN2.out.symm, below_then HB0.out HW6.out HB0.out.size⟩
end Aterm
end Go.Proofs.YtolpdhkgkjnbfaaDoor
namespace Go.Proofs.YtolpdhkgkjnbfaaDoor
open Go.RowKit
set_option linter.unusedVariables false
set_option linter.unusedSimpArgs false
namespace Aterm
open Effect (RdI nget nget_at nget_mem ret_bool ret_i64 lt_of_block heap_alloc_new ofA)
open Rt (box_new box_at below_then)

/-- How many nodes may still come. -/
structure MayAt (w0 : World) (N : Nat) (s : Int) (W : World) : Prop where
  box : W.heap[N]? = some (.cells #[.int .i64 s] 3 (0, 0))
  low : w0.heap.size ≤ N
def MayP (N : Nat) (k : Nat) (_ : Option Obj) : Prop := k = N
def MayI (w0 : World) (N : Nat) (r : Nat) (s : Int) (W : World) : Prop := MayAt w0 N s W ∧ s ≤ 40000 ∧ -1000000 ≤ s - r
theorem MayI.goes {w0 : World} {N : Nat} (hN : w0.heap.size ≤ N) : Goes w0 (MayP N) (MayI w0 N) where
  low := fun k O hk h => by have h' : k = N := h; omega
  new := fun r s W h cs fz hp => by
    have e1 := lt_of_block h.1.box
    have h' : W.heap.size = N := hp
    omega
  keep := fun r s W W' h hb => ⟨⟨(hb.block N (lt_of_block h.1.box)).trans h.1.box, h.1.low⟩, h.2⟩
  less := fun r r' s W h hr => ⟨h.1, h.2.1, by have := h.2.2; omega⟩
set_option maxRecDepth 10000 in
set_option maxHeartbeats 3200000 in
theorem may1_walk (w0 : World) (N : Nat) (hkw : Words.KwLaid w0) : Steps 30 [.pointer (some ⟨N, 0, none⟩)] mayB mayS smallB w0 (MayP N) (MayI w0 N) := by
  intro r s W t h v l hi hT hC hb0
  obtain ⟨hA, hs1, hs2⟩ := hi
  have hs3 : -1000000 ≤ s := by omega
  have hB : mayB s t = (decide (0 ≤ s - 1) && nodeB h l) := by unfold mayB; rw [hT.head, hT.len]
  have hf := fun (W' : World) (hb : Below w0.heap.size w0 W') => fits_walk t h v l W' (hT.below hb) hC (hkw.below hb)
  have hset : ∀ V : World, V.heap[N]? = some (.cells #[.int .i64 s] 3 (0, 0)) → (V.setCell ⟨N, 0, none⟩ (.int .i64 (s - 1))).heap[N]? = some (.cells #[.int .i64 (s - 1)] 3 (0, 0)) ∧ Tch (MayP N) V (V.setCell ⟨N, 0, none⟩ (.int .i64 (s - 1))) := fun V hV =>
    ⟨by simp [World.setCell, Array.getElem?_modify, hV], ⟨rfl, rfl, rfl, by simp [World.setCell], fun k _ hn => Below.heap_setCell _ _ _ _ hn⟩⟩
  have HA := Lib.hid hA; have HBB := Lib.hid hB; have HF := Lib.hid hf; have HB00 := Lib.hid hb0; have HSET := Lib.hid hset; have HS2 := Lib.hid hs2
  clear hA hB hf hT hC hb0 hkw hset hs2
  show Calls Tryd.prog 30 #[.agg #[.int .u8 h.h.k, .int .u8 h.h.op, .int .i64 h.h.pl, .int .i64 h.h.n, .string h.h.name, .string h.h.arg, .string h.h.exn, .int .i64 h.rho, .slice v.ra h.rhos.length v.rc, .slice v.ea h.e.length v.ec, .int .u8 h.ty.h.k, .int .i64 h.ty.h.r, .slice v.tea h.ty.h.e.length v.tec, .slice v.tka h.ty.ks.length v.tkc, .int .u8 h.re.h.k, .int .i64 h.re.h.r, .slice v.sea h.re.h.e.length v.sec, .slice v.ska h.re.ks.length v.skc, .slice v.ka l v.kc], .pointer (some ⟨N, 0, none⟩)] W _
  go_enter Tryd.func30, Tryd.ntmps30
  go_upto_region 1 with (fail)
  obtain ⟨W0, hW0⟩ : ∃ W0, W0 = W.alloc (.cells #[.int .u8 h.h.k, .int .u8 h.h.op, .int .i64 h.h.pl, .int .i64 h.h.n, .string h.h.name, .string h.h.arg, .string h.h.exn, .int .i64 h.rho, .slice v.ra h.rhos.length v.rc, .slice v.ea h.e.length v.ec, .int .u8 h.ty.h.k, .int .i64 h.ty.h.r, .slice v.tea h.ty.h.e.length v.tec, .slice v.tka h.ty.ks.length v.tkc, .int .u8 h.re.h.k, .int .i64 h.re.h.r, .slice v.sea h.re.h.e.length v.sec, .slice v.ska h.re.ks.length v.skc, .slice v.ka l v.kc] 33) := ⟨_, rfl⟩
  have hbx : Box W0 W.heap.size h v l := by rw [hW0]; exact box_of (w := W) (h := h) (v := v) (l := l)
  have hb0 : Below W.heap.size W W0 := by rw [hW0]; exact box_new _
  rw [← hW0]
  clear hW0
  have HBW := Lib.hid hb0
  generalize hN0 : W.heap.size = N0 at hbx ⊢
  have HB0 := Lib.hid hb0; have HBX := Lib.hid hbx; have HRG := Lib.hid hbx.range
  obtain ⟨b0, b1, b2, b3, b4, b5, b6, b7, b8, b9, b10, b11, b12, b13, b14, b15, b16, b17, b18⟩ := hbx
  clear hb0 b0 b1 b2 b3 b4 b5 b6 b7 b8 b9 b10 b11 b12 b13 b14 b15 b16 b17 b18
  have hx0 := (HBW.out.block N (lt_of_block HA.out.box)).trans HA.out.box
  have cN : W0.cell? ⟨N, 0, none⟩ = some (.int .i64 s) := by simp [World.cell?, hx0]
  have fN : W0.frozen? ⟨N, 0, none⟩ = false := by simp [World.frozen?, hx0]
  have hne : ¬ MayP N N0 W0.heap[N0]? := fun h => by have h' : N0 = N := h; have := lt_of_block HA.out.box; omega
  have hst := HSET.out W0 hx0
  have HST := Lib.hid hst; have HNE := Lib.hid hne
  clear hx0 hst hne hN0
  go_upto_region 2 with (fail)
  generalize hW1 : W0.setCell ⟨N, 0, none⟩ (.int .i64 (s - 1)) = W1 at HST ⊢
  clear hW1 cN fN
  have hrg1 := HST.out.2.range HRG.out HNE.out
  have cN : W1.cell? ⟨N, 0, none⟩ = some (.int .i64 (s - 1)) := by simp [World.cell?, HST.out.1]
  have hb1 : Below w0.heap.size w0 W1 := HST.out.2.below (fun k O hk h => by have h' : k = N := h; have := HA.out.low; omega) (below_then HB00.out HBW.out HB00.out.size) (Nat.le_refl _)
  have HRG1 := Lib.hid hrg1; have HB1 := Lib.hid hb1
  clear hrg1 hb1
  by_cases h0 : 0 ≤ s - 1
  · have hB := HBB.out
    rw [decide_eq_true h0, Bool.true_and] at hB
    have HB2 := Lib.hid hB
    have d0 : decide ((0 : Int) ≤ s - 1) = true := decide_eq_true h0
    clear hB
    go_wp2_with (refine at_load_g (by first | rfl | (simp [Region.wanted, yielded, Act.put, h0]; omega)) _ rfl N0 0 rfl HRG1.out ?_)
    refine (HF.out W1 HB1.out).mono ?_
    rintro e w2 ⟨rfl, hb2⟩
    have HW2 := Lib.hid hb2
    clear hb2 cN
    generalize hX : nodeB h l = X at *
    have HX := Lib.hid hX
    clear hX
    go_wp2_with (fail)
    go_ret
    refine ⟨ret_bool (by rw [HB2.out]), ⟨⟨(HW2.out.block N (lt_of_block HST.out.1)).trans HST.out.1, HA.out.low⟩, ?_, ?_⟩, ((Tch.of_below HBW.out).trans HST.out.2).trans (Tch.of_below HW2.out)⟩
    · show s - 1 ≤ 40000
      omega
    · show -1000000 ≤ s - 1 - r
      have := HS2.out
      omega
  · have hB := HBB.out
    rw [decide_eq_false h0, Bool.false_and] at hB
    have HB2 := Lib.hid hB
    have d0 : decide ((0 : Int) ≤ s - 1) = false := decide_eq_false h0
    clear hB
    go_wp2_with (fail)
    go_ret
    refine ⟨ret_bool (by rw [HB2.out]), ⟨⟨HST.out.1, HA.out.low⟩, ?_, ?_⟩, (Tch.of_below HBW.out).trans HST.out.2⟩
    · show s - 1 ≤ 40000
      omega
    · show -1000000 ≤ s - 1 - r
      have := HS2.out
      omega
set_option maxRecDepth 10000 in
set_option maxHeartbeats 3200000 in
theorem may_walk (t : AT) (h : Hd) (v : V) (l : Nat) (w : World) (hT : AtIs w h v l t) (hw : wt t ≤ 100000) (hc : allT smallB t = true) (hkw : Words.KwLaid w) :
    Calls Tryd.prog 19 #[.agg #[.int .u8 h.h.k, .int .u8 h.h.op, .int .i64 h.h.pl, .int .i64 h.h.n, .string h.h.name, .string h.h.arg, .string h.h.exn, .int .i64 h.rho, .slice v.ra h.rhos.length v.rc, .slice v.ea h.e.length v.ec, .int .u8 h.ty.h.k, .int .i64 h.ty.h.r, .slice v.tea h.ty.h.e.length v.tec, .slice v.tka h.ty.ks.length v.tkc, .int .u8 h.re.h.k, .int .i64 h.re.h.r, .slice v.sea h.re.h.e.length v.sec, .slice v.ska h.re.ks.length v.skc, .slice v.ka l v.kc]] w fun e w' => e = .returned (.bool (mayT t)) ∧ Below w.heap.size w w' := by
  have hfo := fo_may t
  have hk1 : (foK mayB mayS [t] 40000).1 = mayT t := by
    rw [foK_cons, ← hfo]
    cases hq : (foT mayB mayS t 40000).1
    · rw [if_neg Bool.false_ne_true]
    · rw [if_pos rfl, foK_nil]
  have hcc : allK smallB [t] = true := by rw [allK_of1]; exact hc
  have hwt : wts [t] ≤ 100000 := by rw [wts_cons, wts_nil]; exact hw
  have HT := Lib.hid hT; have HK1 := Lib.hid hk1; have HCC := Lib.hid hcc; have HWT := Lib.hid hwt; have HKW := Lib.hid hkw
  clear hT hfo hk1 hcc hc hw hwt hkw
  go_enter Tryd.func19, Tryd.ntmps19
  go_upto_region 1 with (fail)
  obtain ⟨W0, hW0⟩ : ∃ W0, W0 = w.alloc (.cells #[.int .u8 h.h.k, .int .u8 h.h.op, .int .i64 h.h.pl, .int .i64 h.h.n, .string h.h.name, .string h.h.arg, .string h.h.exn, .int .i64 h.rho, .slice v.ra h.rhos.length v.rc, .slice v.ea h.e.length v.ec, .int .u8 h.ty.h.k, .int .i64 h.ty.h.r, .slice v.tea h.ty.h.e.length v.tec, .slice v.tka h.ty.ks.length v.tkc, .int .u8 h.re.h.k, .int .i64 h.re.h.r, .slice v.sea h.re.h.e.length v.sec, .slice v.ska h.re.ks.length v.skc, .slice v.ka l v.kc] 33) := ⟨_, rfl⟩
  have hbx : Box W0 w.heap.size h v l := by rw [hW0]; exact box_of (w := w) (h := h) (v := v) (l := l)
  have hb0 : Below w.heap.size w W0 := by rw [hW0]; exact box_new _
  rw [← hW0]
  clear hW0
  have HBW := Lib.hid hb0
  generalize hN0 : w.heap.size = N0 at hbx ⊢
  have HB0 := Lib.hid hb0; have HBX := Lib.hid hbx; have HRG := Lib.hid hbx.range
  obtain ⟨b0, b1, b2, b3, b4, b5, b6, b7, b8, b9, b10, b11, b12, b13, b14, b15, b16, b17, b18⟩ := hbx
  clear hb0 b0 b1 b2 b3 b4 b5 b6 b7 b8 b9 b10 b11 b12 b13 b14 b15 b16 b17 b18
  go_upto_region 2 with (fail)
  have hst : (W0.alloc (.cells #[.int .i64 40000] 3)).heap[W0.heap.size]? = some (.cells #[.int .i64 40000] 3 (0, 0)) := heap_alloc_new _ _
  have hb1 : Below W0.heap.size W0 (W0.alloc (.cells #[.int .i64 40000] 3)) := box_new _
  generalize hW1 : W0.alloc (.cells #[.int .i64 40000] 3) = W1 at hst hb1 ⊢
  have hsz : w.heap.size ≤ W0.heap.size := HBW.out.size
  have hrg1 := range_below HRG.out hb1
  have hbw1 := below_then HBW.out hb1 hsz
  have HST := Lib.hid hst; have HB1 := Lib.hid hb1; have HRG1 := Lib.hid hrg1; have HBW1 := Lib.hid hbw1
  clear hW1 hst hb1 hrg1 hbw1
  go_wp2_with (refine at_load rfl _ rfl N0 0 rfl HRG1.out ?_)
  refine (allMay_walk mayB mayS smallB w (MayP W0.heap.size) W0.heap.size (MayI w W0.heap.size) (MayI.goes hsz) (may1_walk w W0.heap.size HKW.out) (wts [t]) [t] _ 1 1 0 40000 _ (Nat.le_refl _) rfl (by unfold maxLen; omega)
    (fun W hW => row_one HT.out (hW.range (row_new rfl) (fun h => by have h' : W1.heap.size = W0.heap.size := h; have := lt_of_block HST.out; omega))) (below_then HBW1.out (box_new _) HBW1.out.size) HCC.out ⟨⟨((box_new _).block _ (lt_of_block HST.out)).trans HST.out, hsz⟩, by omega, by have := HWT.out; omega⟩).mono ?_
  rintro e w2 ⟨rfl, hi, ht⟩
  have hb2 : Below w.heap.size w w2 := ht.below (fun k O hk h => by have h' : k = W0.heap.size := h; omega) (below_then HBW1.out (box_new _) HBW1.out.size) (Nat.le_refl _)
  have HB2 := Lib.hid hb2
  clear hi ht hb2
  rw [HK1.out]
  generalize hX : mayT t = X at *
  have HX := Lib.hid hX
  clear hX
  go_wp2_with (fail)
  go_ret
  exact ⟨ret_bool HX.out.symm, HB2.out⟩
end Aterm
end Go.Proofs.YtolpdhkgkjnbfaaDoor
namespace Go.Proofs.YtolpdhkgkjnbfaaDoor
open Go.RowKit
set_option linter.unusedVariables false
set_option linter.unusedSimpArgs false
namespace Aterm
open Effect (lt_of_block heap_alloc_new)
open Rt (box_new box_at below_then)
open Term (Tm TmIs Reads veil veil_to veil_at tcells)

set_option maxRecDepth 100000 in
set_option maxHeartbeats 12800000 in
theorem erase_walk : ∀ (m : Nat) (t : AT) (h : Hd) (v : V) (l : Nat) (w : World), wt t ≤ m → wt t ≤ 100000 → AtIs w h v l t → Calls Tryd.prog 17 #[.agg #[.int .u8 h.h.k, .int .u8 h.h.op, .int .i64 h.h.pl, .int .i64 h.h.n, .string h.h.name, .string h.h.arg, .string h.h.exn, .int .i64 h.rho, .slice v.ra h.rhos.length v.rc, .slice v.ea h.e.length v.ec, .int .u8 h.ty.h.k, .int .i64 h.ty.h.r, .slice v.tea h.ty.h.e.length v.tec, .slice v.tka h.ty.ks.length v.tkc, .int .u8 h.re.h.k, .int .i64 h.re.h.r, .slice v.sea h.re.h.e.length v.sec, .slice v.ska h.re.ks.length v.skc, .slice v.ka l v.kc]] w (EraseEnd (eraseT t) w) := by
  intro m
  induction m with
  | zero => intro t h v l w hm; have := wt_pos t; omega
  | succ m ih =>
    intro t h v l w hm hmm hT
    have hwt := wt_ks t
    have hll : l ≤ 100000 := by have := wts_ge t.ks; rw [hT.len] at this; omega
    have hbox0 : ((w.alloc (.cells #[.int .u8 h.h.k, .int .u8 h.h.op, .int .i64 h.h.pl, .int .i64 h.h.n, .string h.h.name, .string h.h.arg, .string h.h.exn, .int .i64 h.rho, .slice v.ra h.rhos.length v.rc, .slice v.ea h.e.length v.ec, .int .u8 h.ty.h.k, .int .i64 h.ty.h.r, .slice v.tea h.ty.h.e.length v.tec, .slice v.tka h.ty.ks.length v.tkc, .int .u8 h.re.h.k, .int .i64 h.re.h.r, .slice v.sea h.re.h.e.length v.sec, .slice v.ska h.re.ks.length v.skc, .slice v.ka l v.kc] 33)).alloc (.cells #[.int .u8 0, .int .u8 0, .int .i64 0, .int .i64 0, .string ⟨#[]⟩, .string ⟨#[]⟩, .string ⟨#[]⟩, .slice none 0 0] 44)).heap[w.heap.size]? = some (.cells #[.int .u8 h.h.k, .int .u8 h.h.op, .int .i64 h.h.pl, .int .i64 h.h.n, .string h.h.name, .string h.h.arg, .string h.h.exn, .int .i64 h.rho, .slice v.ra h.rhos.length v.rc, .slice v.ea h.e.length v.ec, .int .u8 h.ty.h.k, .int .i64 h.ty.h.r, .slice v.tea h.ty.h.e.length v.tec, .slice v.tka h.ty.ks.length v.tkc, .int .u8 h.re.h.k, .int .i64 h.re.h.r, .slice v.sea h.re.h.e.length v.sec, .slice v.ska h.re.ks.length v.skc, .slice v.ka l v.kc] 33 (0, 0)) := ((box_new _).block _ (by simp)).trans (heap_alloc_new _ _)
    by_cases hr : h.h.k = 17 ∧ t.ks ≠ []
    · have hl0 : 0 < t.ks.length := by have := hr.2; cases hks : t.ks with
                                       | nil => exact absurd hks this
                                       | cons x xs => simp
      have her : eraseT t = eraseT (tget t.ks 0) := by
        cases hks : t.ks with
        | nil => exact absurd hks hr.2
        | cons x xs => exact eraseT_reg (by rw [hT.head]; exact hr.1) hks
      have hlp : decide ((0 : Int) < (l : Int)) = true := decide_eq_true (by rw [hT.len] at hl0; omega)
      have hli : (0 : Int) < (l : Int) := by rw [hT.len] at hl0; omega
      have hwk := wts_get hl0
      have HER := Lib.hid her; have HK := Lib.hid hr.1; have IH := Lib.hid ih; have HT := Lib.hid hT; have HM := Lib.hid (And.intro hm hmm); have HWT := Lib.hid hwt; have HL0 := Lib.hid hl0; have HWK := Lib.hid hwk; have HB9 := Lib.hid hbox0
      clear her hr ih hT hm hmm hwt hl0 hwk hbox0
      go_enter Tryd.func17, Tryd.ntmps17
      go_upto_region 1 with (fail)
      obtain ⟨W0, hW0⟩ : ∃ W0, W0 = (w.alloc (.cells #[.int .u8 h.h.k, .int .u8 h.h.op, .int .i64 h.h.pl, .int .i64 h.h.n, .string h.h.name, .string h.h.arg, .string h.h.exn, .int .i64 h.rho, .slice v.ra h.rhos.length v.rc, .slice v.ea h.e.length v.ec, .int .u8 h.ty.h.k, .int .i64 h.ty.h.r, .slice v.tea h.ty.h.e.length v.tec, .slice v.tka h.ty.ks.length v.tkc, .int .u8 h.re.h.k, .int .i64 h.re.h.r, .slice v.sea h.re.h.e.length v.sec, .slice v.ska h.re.ks.length v.skc, .slice v.ka l v.kc] 33)).alloc (.cells #[.int .u8 0, .int .u8 0, .int .i64 0, .int .i64 0, .string ⟨#[]⟩, .string ⟨#[]⟩, .string ⟨#[]⟩, .slice none 0 0] 44) := ⟨_, rfl⟩
      have hbk : W0.heap[w.heap.size]? = some (.cells #[.int .u8 h.h.k, .int .u8 h.h.op, .int .i64 h.h.pl, .int .i64 h.h.n, .string h.h.name, .string h.h.arg, .string h.h.exn, .int .i64 h.rho, .slice v.ra h.rhos.length v.rc, .slice v.ea h.e.length v.ec, .int .u8 h.ty.h.k, .int .i64 h.ty.h.r, .slice v.tea h.ty.h.e.length v.tec, .slice v.tka h.ty.ks.length v.tkc, .int .u8 h.re.h.k, .int .i64 h.re.h.r, .slice v.sea h.re.h.e.length v.sec, .slice v.ska h.re.ks.length v.skc, .slice v.ka l v.kc] 33 (0, 0)) := by rw [hW0]; exact HB9.out
      have hrs : W0.heap[w.heap.size + 1]? = some (.cells #[.int .u8 0, .int .u8 0, .int .i64 0, .int .i64 0, .string ⟨#[]⟩, .string ⟨#[]⟩, .string ⟨#[]⟩, .slice none 0 0] 44 (0, 0)) := by
        have := heap_alloc_new (w.alloc (.cells #[.int .u8 h.h.k, .int .u8 h.h.op, .int .i64 h.h.pl, .int .i64 h.h.n, .string h.h.name, .string h.h.arg, .string h.h.exn, .int .i64 h.rho, .slice v.ra h.rhos.length v.rc, .slice v.ea h.e.length v.ec, .int .u8 h.ty.h.k, .int .i64 h.ty.h.r, .slice v.tea h.ty.h.e.length v.tec, .slice v.tka h.ty.ks.length v.tkc, .int .u8 h.re.h.k, .int .i64 h.re.h.r, .slice v.sea h.re.h.e.length v.sec, .slice v.ska h.re.ks.length v.skc, .slice v.ka l v.kc] 33)) (.cells #[.int .u8 0, .int .u8 0, .int .i64 0, .int .i64 0, .string ⟨#[]⟩, .string ⟨#[]⟩, .string ⟨#[]⟩, .slice none 0 0] 44)
        rw [World.size_alloc] at this
        rw [hW0]; exact this
      have hsz : W0.heap.size = w.heap.size + 2 := by rw [hW0]; simp
      have hb0 : Below w.heap.size w W0 := by rw [hW0]; exact (box_new _).trans ((box_new _).mono (by simp))
      rw [← hW0]
      clear hW0
      have hbx := box_blk hbk
      have HB0 := Lib.hid hb0; have HRS := Lib.hid hrs; have HSZ := Lib.hid hsz
      obtain ⟨b0, b1, b2, b3, b4, b5, b6, b7, b8, b9, b10, b11, b12, b13, b14, b15, b16, b17, b18⟩ := hbx
      clear hb0 hrs hsz hbk b1 b2 b3 b4 b5 b6 b7 b8 b9 b10 b11 b12 b13 b14 b15 b16 b17
      rw [HK.out] at b0
      obtain ⟨b, o, v2, hp, hkid, hrg⟩ := (HT.out.kids.stay HB0.out).load 0 HL0.out
      rw [hp] at b18
      rw [Nat.zero_mul, Nat.add_zero] at hrg
      have HKID := Lib.hid hkid; have HRG := Lib.hid hrg
      clear hkid hrg hp
      generalize hN0 : w.heap.size = N0 at *
      have HN0 := Lib.hid hN0
      clear hN0
      go_wp2_with (refine at_load rfl _ rfl b o rfl HRG.out ?_)
      refine (IH.out (tget t.ks 0) _ v2 _ W0 (by have := HM.out.1; have := HWT.out; have := HWK.out; omega) (by have := HM.out.2; have := HWT.out; have := HWK.out; omega) HKID.out).mono ?_
      rintro e w2 ⟨q, c, rfl, hT2, hb2⟩
      have hrs2 := (hb2.block _ (by rw [HSZ.out]; omega)).trans HRS.out
      obtain ⟨⟨r0, r1, r2, r3, r4, r5, r6, r7⟩, g0, g1, g2, g3, g4, g5, g6, g7⟩ := cells8t hrs2
      have HT2 := Lib.hid hT2; have HB2 := Lib.hid hb2
      clear hT2 hb2 hrs2 b0 b18
      rw [HER.out]
      generalize hE : eraseT (tget t.ks 0) = E at *
      have HE := Lib.hid hE
      clear hE
      go_wp2_with (fail)
      refine bodyPost_ret (v := .agg #[.int .u8 E.h.k, .int .u8 E.h.op, .int .i64 E.h.pl, .int .i64 E.h.n, .string E.h.name, .string E.h.arg, .string E.h.exn, .slice q E.ks.length c]) (by simp [results, Tryd.results17, go_sem, r0, r1, r2, r3, r4, r5, r6, r7]) rfl ?_
      have h0 := HB0.out
      rw [← HN0.out] at h0 ⊢
      rw [HER.out]
      refine ⟨q, c, rfl, ?_, (h0.trans (HB2.out.mono h0.size)).trans (set8_below _ _ _ _ _ _ _ _ (by omega))⟩
      refine HT2.out.reads' (veil_to fun i hi hp => ?_)
      have hp' : W0.heap.size ≤ i := of_decide_eq_true hp
      rw [HSZ.out] at hp'
      exact ⟨decide_eq_true (by have := HN0.out; omega), set8_other _ _ _ _ _ _ _ _ _ _ (by have := HN0.out; omega)⟩
    have her : eraseT t = .node (bareH h) (eraseK t.ks) := by
      have := eraseT_no (t := t) (by rw [hT.head]; exact hr)
      rw [hT.head] at this
      exact this
    have hcase : ((h.h.k == 17) = true ∧ (h.h.k == 18) = false ∧ (bareH h).k = h.h.k ∧ decide (0 < l) = false) ∨ ((h.h.k == 17) = false ∧ (h.h.k == 18) = true ∧ (bareH h).k = 2 ∧ True) ∨ ((h.h.k == 17) = false ∧ (h.h.k == 18) = false ∧ (bareH h).k = h.h.k ∧ True) := by
      unfold bareH
      by_cases h17 : h.h.k = 17
      · left
        have hks : t.ks = [] := Classical.byContradiction fun hn => hr ⟨h17, hn⟩
        have hl : l = 0 := by rw [← hT.len, hks]; rfl
        rw [h17]
        exact ⟨by decide, by decide, by simp [h17], by rw [hl]; decide⟩
      · by_cases h18 : h.h.k = 18
        · exact .inr (.inl ⟨by simpa using h17, by simpa using h18, by simp [h18], trivial⟩)
        · exact .inr (.inr ⟨by simpa using h17, by simpa using h18, by simp [h18], trivial⟩)
    have hst := erase_start w h v l
    obtain ⟨i0, hi0, hz0, hz1, hz2⟩ := info_parts Term.infoTerm
    have HI0 := Lib.hid hi0; have HZ0 := Lib.hid hz0; have HZ1 := Lib.hid hz1; have HZ2 := Lib.hid hz2
    have HER := Lib.hid her; have IH := Lib.hid ih; have HT := Lib.hid hT; have HM := Lib.hid (And.intro hm hmm); have HWT := Lib.hid hwt; have HB9 := Lib.hid hbox0
    clear her hr ih hT hm hmm hwt hbox0 hi0 hz0 hz1 hz2
    rcases hcase with ⟨e17, e18, hbk, hl0⟩ | ⟨e17, e18, hbk, -⟩ | ⟨e17, e18, hbk, -⟩
    all_goals
      rw [hbk] at hst
      have HST := Lib.hid hst; have HBK := Lib.hid hbk
      clear hst hbk
      go_enter Tryd.func17, Tryd.ntmps17
      go_upto_region 1 with (fail)
      obtain ⟨W0, hW0⟩ : ∃ W0, W0 = (w.alloc (.cells #[.int .u8 h.h.k, .int .u8 h.h.op, .int .i64 h.h.pl, .int .i64 h.h.n, .string h.h.name, .string h.h.arg, .string h.h.exn, .int .i64 h.rho, .slice v.ra h.rhos.length v.rc, .slice v.ea h.e.length v.ec, .int .u8 h.ty.h.k, .int .i64 h.ty.h.r, .slice v.tea h.ty.h.e.length v.tec, .slice v.tka h.ty.ks.length v.tkc, .int .u8 h.re.h.k, .int .i64 h.re.h.r, .slice v.sea h.re.h.e.length v.sec, .slice v.ska h.re.ks.length v.skc, .slice v.ka l v.kc] 33)).alloc (.cells #[.int .u8 0, .int .u8 0, .int .i64 0, .int .i64 0, .string ⟨#[]⟩, .string ⟨#[]⟩, .string ⟨#[]⟩, .slice none 0 0] 44) := ⟨_, rfl⟩
      have hbk : W0.heap[w.heap.size]? = some (.cells #[.int .u8 h.h.k, .int .u8 h.h.op, .int .i64 h.h.pl, .int .i64 h.h.n, .string h.h.name, .string h.h.arg, .string h.h.exn, .int .i64 h.rho, .slice v.ra h.rhos.length v.rc, .slice v.ea h.e.length v.ec, .int .u8 h.ty.h.k, .int .i64 h.ty.h.r, .slice v.tea h.ty.h.e.length v.tec, .slice v.tka h.ty.ks.length v.tkc, .int .u8 h.re.h.k, .int .i64 h.re.h.r, .slice v.sea h.re.h.e.length v.sec, .slice v.ska h.re.ks.length v.skc, .slice v.ka l v.kc] 33 (0, 0)) := by rw [hW0]; exact HB9.out
      have hsz : W0.heap.size = w.heap.size + 2 := by rw [hW0]; simp
      rw [← hW0] at HST ⊢
      clear hW0
      have hbx := box_blk hbk
      obtain ⟨b0, b1, b2, b3, b4, b5, b6, b7, b8, b9, b10, b11, b12, b13, b14, b15, b16, b17, b18⟩ := hbx
      have hlt0 : w.heap.size < W0.heap.size := by omega
      have HSZ := Lib.hid hsz
      clear hbk hsz b7 b8 b9 b10 b11 b12 b13 b14 b15 b16 b17
      go_upto_region 6 with (fail)
      generalize hW3 : W0.alloc _ = W3 at HST ⊢
      rw [HSZ.out]
      clear hW3
      have hb3 := box_blk HST.out.box
      obtain ⟨b0, b1, b2, b3, b4, b5, b6, b7, b8, b9, b10, b11, b12, b13, b14, b15, b16, b17, b18⟩ := hb3
      clear b0 b1 b2 b3 b4 b5 b6 b7 b8 b9 b10 b11 b12 b13 b14 b15 b16 b17
      go_wp2_with (fail)
      clear b18
      go_loopw [5, 33] (fun _ i wr => ∃ (j : Nat) (a : Option Addr) (c0 : Nat), j ≤ l ∧ i = .int .i64 j ∧ Hid (EraseAt w h v l (eraseK (t.ks.take j)) j a c0 wr)) (fun _ i _ => l - (intOf i).toNat)
      case atStart => exact ⟨0, none, 0, Nat.zero_le _, rfl, Lib.hid (by rw [List.take_zero, eraseK_nil]; exact HST.out)⟩
      case round =>
        obtain ⟨j, a, c0, hj, rfl, HA⟩ := hrel
        by_cases hlt : j < l
        · have hjk : j < t.ks.length := by rw [HT.out.len]; exact hlt
          obtain ⟨bb, o, v2, hp, hkid, hrg⟩ := HT.out.kids.load j hjk
          have hwk := wts_get hjk
          have htk : eraseK (t.ks.take (j + 1)) = eraseK (t.ks.take j) ++ [eraseT (tget t.ks j)] := by rw [take_tget t.ks j hjk, eraseK_map, eraseK_map, List.map_append]; rfl
          have hm1 : wt (tget t.ks j) ≤ m := by have := HM.out.1; have := HWT.out; omega
          have hm2 : wt (tget t.ks j) ≤ 100000 := by have := HM.out.2; have := HWT.out; omega
          have hl2 := lt_of_block HA.out.out
          have hout := HA.out.out
          have o7 : wr.cell? ⟨w.heap.size + 2, 7, none⟩ = some (.slice a j c0) := by simp [World.cell?, hout]
          have hrow := HA.out.row
          have j0 : (0 : Int) ≤ (j : Int) := by omega
          have j1 : (j : Int) < (l : Int) := by omega
          have HL2 := Lib.hid hl2; have HOUT := Lib.hid hout; have HROW := Lib.hid hrow
          clear hl2 hout hrow hwk
          have HRG := Lib.hid (range_below hrg HA.out.below)
          have HKID := Lib.hid (hkid.below HA.out.below)
          obtain ⟨u, hu⟩ : ∃ u, u = eraseT (tget t.ks j) := ⟨_, rfl⟩
          rw [← hu] at htk
          have HTK := Lib.hid htk; have HU := Lib.hid hu
          clear hrg hkid htk hu hjk
          rw [hp]
          go_upto_region 9 with (first | refine at_load rfl _ rfl bb (o + j * 19) rfl HRG.out ?_ | refine at_store rfl _ _ rfl _ rfl (tget t.ks j).h v2 (tget t.ks j).ks.length rfl rfl ?_)
          have hn1 := heap_alloc_new wr (.cells #[.int .u8 (tget t.ks j).h.h.k, .int .u8 (tget t.ks j).h.h.op, .int .i64 (tget t.ks j).h.h.pl, .int .i64 (tget t.ks j).h.h.n, .string (tget t.ks j).h.h.name, .string (tget t.ks j).h.h.arg, .string (tget t.ks j).h.h.exn, .int .i64 (tget t.ks j).h.rho, .slice v2.ra (tget t.ks j).h.rhos.length v2.rc, .slice v2.ea (tget t.ks j).h.e.length v2.ec, .int .u8 (tget t.ks j).h.ty.h.k, .int .i64 (tget t.ks j).h.ty.h.r, .slice v2.tea (tget t.ks j).h.ty.h.e.length v2.tec, .slice v2.tka (tget t.ks j).h.ty.ks.length v2.tkc, .int .u8 (tget t.ks j).h.re.h.k, .int .i64 (tget t.ks j).h.re.h.r, .slice v2.sea (tget t.ks j).h.re.h.e.length v2.sec, .slice v2.ska (tget t.ks j).h.re.ks.length v2.skc, .slice v2.ka (tget t.ks j).ks.length v2.kc] 33)
          have hbw := box_new (w := wr) (.cells #[.int .u8 (tget t.ks j).h.h.k, .int .u8 (tget t.ks j).h.h.op, .int .i64 (tget t.ks j).h.h.pl, .int .i64 (tget t.ks j).h.h.n, .string (tget t.ks j).h.h.name, .string (tget t.ks j).h.h.arg, .string (tget t.ks j).h.h.exn, .int .i64 (tget t.ks j).h.rho, .slice v2.ra (tget t.ks j).h.rhos.length v2.rc, .slice v2.ea (tget t.ks j).h.e.length v2.ec, .int .u8 (tget t.ks j).h.ty.h.k, .int .i64 (tget t.ks j).h.ty.h.r, .slice v2.tea (tget t.ks j).h.ty.h.e.length v2.tec, .slice v2.tka (tget t.ks j).h.ty.ks.length v2.tkc, .int .u8 (tget t.ks j).h.re.h.k, .int .i64 (tget t.ks j).h.re.h.r, .slice v2.sea (tget t.ks j).h.re.h.e.length v2.sec, .slice v2.ska (tget t.ks j).h.re.ks.length v2.skc, .slice v2.ka (tget t.ks j).ks.length v2.kc] 33)
          generalize hW1 : wr.alloc (.cells #[.int .u8 (tget t.ks j).h.h.k, .int .u8 (tget t.ks j).h.h.op, .int .i64 (tget t.ks j).h.h.pl, .int .i64 (tget t.ks j).h.h.n, .string (tget t.ks j).h.h.name, .string (tget t.ks j).h.h.arg, .string (tget t.ks j).h.h.exn, .int .i64 (tget t.ks j).h.rho, .slice v2.ra (tget t.ks j).h.rhos.length v2.rc, .slice v2.ea (tget t.ks j).h.e.length v2.ec, .int .u8 (tget t.ks j).h.ty.h.k, .int .i64 (tget t.ks j).h.ty.h.r, .slice v2.tea (tget t.ks j).h.ty.h.e.length v2.tec, .slice v2.tka (tget t.ks j).h.ty.ks.length v2.tkc, .int .u8 (tget t.ks j).h.re.h.k, .int .i64 (tget t.ks j).h.re.h.r, .slice v2.sea (tget t.ks j).h.re.h.e.length v2.sec, .slice v2.ska (tget t.ks j).h.re.ks.length v2.skc, .slice v2.ka (tget t.ks j).ks.length v2.kc] 33) = W1 at hn1 hbw ⊢
          clear hW1
          have q7 : W1.cell? ⟨w.heap.size + 2, 7, none⟩ = some (.slice a j c0) := (hbw.cell (p := ⟨w.heap.size + 2, 7, none⟩) HL2.out).trans o7
          have hcall := IH.out (tget t.ks j) (tget t.ks j).h v2 (tget t.ks j).ks.length W1.drew hm1 hm2 (HKID.out.below (hbw.trans (Below.refl _ _).drew))
          rw [← HU.out] at hcall
          have HCALL := Lib.hid hcall; have HBW := Lib.hid hbw; have HN1 := Lib.hid hn1; have HQ7 := Lib.hid q7
          clear hcall o7 hbw
          refine wp_region_held_drew (S := fun (V : World) => V.heap[wr.heap.size]? = some (.cells #[.int .u8 (tget t.ks j).h.h.k, .int .u8 (tget t.ks j).h.h.op, .int .i64 (tget t.ks j).h.h.pl, .int .i64 (tget t.ks j).h.h.n, .string (tget t.ks j).h.h.name, .string (tget t.ks j).h.h.arg, .string (tget t.ks j).h.h.exn, .int .i64 (tget t.ks j).h.rho, .slice v2.ra (tget t.ks j).h.rhos.length v2.rc, .slice v2.ea (tget t.ks j).h.e.length v2.ec, .int .u8 (tget t.ks j).h.ty.h.k, .int .i64 (tget t.ks j).h.ty.h.r, .slice v2.tea (tget t.ks j).h.ty.h.e.length v2.tec, .slice v2.tka (tget t.ks j).h.ty.ks.length v2.tkc, .int .u8 (tget t.ks j).h.re.h.k, .int .i64 (tget t.ks j).h.re.h.r, .slice v2.sea (tget t.ks j).h.re.h.e.length v2.sec, .slice v2.ska (tget t.ks j).h.re.ks.length v2.skc, .slice v2.ka (tget t.ks j).ks.length v2.kc] 33 (0, 0))) (by kernel_rfl) HN1.out (fun hHeld => ?_)
          refine wpAnyH_take (i := 0) (v := .pointer (some ⟨w.heap.size + 2, 7, none⟩)) rfl (by kernel_rfl) (by kernel_rfl) (by kernel_rfl) (fun _ _ _ h => h) (Or.inl ⟨by rfl, ?_⟩) (by assumption) ?_
          · intro w' hSw
            first | (go_simp; done) | (go_simp; intro h0; omega) | rfl
          try simp only [Act.put, List.getElem_toArray, List.getElem_cons_succ, List.getElem_cons_zero, List.setIfInBounds_toArray, List.set_cons_zero, List.set_cons_succ]
          refine wpAnyH_take (i := 2) (v := .agg #[.int .u8 (tget t.ks j).h.h.k, .int .u8 (tget t.ks j).h.h.op, .int .i64 (tget t.ks j).h.h.pl, .int .i64 (tget t.ks j).h.h.n, .string (tget t.ks j).h.h.name, .string (tget t.ks j).h.h.arg, .string (tget t.ks j).h.h.exn, .int .i64 (tget t.ks j).h.rho, .slice v2.ra (tget t.ks j).h.rhos.length v2.rc, .slice v2.ea (tget t.ks j).h.e.length v2.ec, .int .u8 (tget t.ks j).h.ty.h.k, .int .i64 (tget t.ks j).h.ty.h.r, .slice v2.tea (tget t.ks j).h.ty.h.e.length v2.tec, .slice v2.tka (tget t.ks j).h.ty.ks.length v2.tkc, .int .u8 (tget t.ks j).h.re.h.k, .int .i64 (tget t.ks j).h.re.h.r, .slice v2.sea (tget t.ks j).h.re.h.e.length v2.sec, .slice v2.ska (tget t.ks j).h.re.ks.length v2.skc, .slice v2.ka (tget t.ks j).ks.length v2.kc]) rfl (by kernel_rfl) (by kernel_rfl) (by kernel_rfl) (fun _ _ _ h => h) (Or.inl ⟨by rfl, ?_⟩) (by assumption) ?_
          · intro w' hSw
            exact exec_at _ rfl wr.heap.size 0 rfl (box_blk hSw).range
          try simp only [Act.put, List.getElem_toArray, List.getElem_cons_succ, List.getElem_cons_zero, List.setIfInBounds_toArray, List.set_cons_zero, List.set_cons_succ]
          refine wpAnyH_ready (rs := [1, 3]) (by kernel_rfl) (by simp) ?_
          refine AllReadyH.cons rfl (fun K hK => ?_) (AllReadyH.cons rfl (fun K hK => ?_) AllReadyH.nil)
          · have HK2 := Lib.hid hK
            clear hK
            try rw [if_pos (by rfl)]
            go_simp
            refine HK2.out _ _ HN1.out (fun hHeld => ?_)
            clear HK2
            try simp only [Act.put, List.getElem_toArray, List.getElem_cons_succ, List.getElem_cons_zero, List.setIfInBounds_toArray, List.set_cons_zero, List.set_cons_succ]
            clear K
            refine wpAnyH_ready (rs := [3]) (by kernel_rfl) (by simp) ?_
            refine AllReadyH.cons rfl (fun K hK => ?_) AllReadyH.nil
            have HK2 := Lib.hid hK
            clear hK
            try rw [if_pos (by rfl)]
            go_simp
            refine HCALL.out.mono ?_
            rintro en w2 ⟨q2, c2, rfl, hT2, hb2d⟩
            have hb2x := undrew' hb2d
            have hb2 : Below wr.heap.size wr w2 := below_then HBW.out hb2x HBW.out.size
            have hm2' : wr.heap.size ≤ W1.drew.heap.size := HBW.out.size
            have HT2 := Lib.hid hT2; have HB2 := Lib.hid hb2; have HM2 := Lib.hid hm2'
            clear hT2 hb2d hm2'
            refine HK2.out _ _ (hb2x.block _ (lt_of_block HN1.out) |>.trans HN1.out) (fun hHeld => ?_)
            clear HK2
            try simp only [Act.put, List.getElem_toArray, List.getElem_cons_succ, List.getElem_cons_zero, List.setIfInBounds_toArray, List.set_cons_zero, List.set_cons_succ]
            clear K
            refine wpAnyH_ready (rs := [4]) (by kernel_rfl) (by simp) ?_
            refine AllReadyH.cons rfl (fun K hK => ?_) AllReadyH.nil
            have HK2 := Lib.hid hK
            clear hK
            have hz2 : w2.heap.size = w2.heap.size := rfl
            try rw [if_pos (by rfl)]
            go_simp
            refine HK2.out _ _ ((hb2x.alloc hb2x.size _).block _ (lt_of_block HN1.out) |>.trans HN1.out) (fun hHeld => ?_)
            clear HK2
            try simp only [Act.put, List.getElem_toArray, List.getElem_cons_succ, List.getElem_cons_zero, List.setIfInBounds_toArray, List.set_cons_zero, List.set_cons_succ]
            clear K
            refine wpAnyH_ready (rs := [5]) (by kernel_rfl) (by simp) ?_
            refine AllReadyH.cons rfl (fun K hK => ?_) AllReadyH.nil
            have HK2 := Lib.hid hK
            clear hK
            obtain ⟨xs, hown, hflat⟩ := HROW.out
            have hown' : wr.ownsRow (w.heap.size + 3) 44 8 (.slice a j c0) j xs := by rw [HA.out.len] at hown; exact hown
            have hr1 : (w2.alloc (.cells #[.int .u8 u.h.k, .int .u8 u.h.op, .int .i64 u.h.pl, .int .i64 u.h.n, .string u.h.name, .string u.h.arg, .string u.h.exn, .slice q2 u.ks.length c2] 44)).ownsRow (w.heap.size + 3) 44 8 (.slice a j c0) j xs := own_below hown' (HB2.out.alloc HB2.out.size _)
            have hr2 : Term.Flat (veil (seen (w.heap.size + 3) (.slice a j c0)) (w2.alloc (.cells #[.int .u8 u.h.k, .int .u8 u.h.op, .int .i64 u.h.pl, .int .i64 u.h.n, .string u.h.name, .string u.h.arg, .string u.h.exn, .slice q2 u.ks.length c2] 44))) xs (eraseK (t.ks.take j)) := hflat.reads (veil_to fun b hbl hp => ⟨hp, (HB2.out.alloc HB2.out.size _).block b hbl⟩)
            refine step_append_lies _ (by rfl) _ _ _ (by rfl) (w.heap.size + 3) 44 i0 _ 8 96 Tryd.underlying42 HI0.out HZ0.out HZ1.out HZ2.out rfl (by omega) (.slice a j c0) j xs (by rfl) hr1 ⟨w2.heap.size, 0, none⟩ 1 1 (tcells u.h q2 u.ks.length c2) (by rfl) (by rfl) (new8 rfl) (cells_one8 _ _ _ _) (by omega) (by unfold maxLen; omega) (by omega) (by have := HB2.out.size; have := HL2.out; simp; omega) (w2.heap.size + 1) (by simp) ?_
            intro gg cap w3 hown3 hgrow3 hat3 hlt3
            obtain ⟨⟨s0, s1⟩, s2, s3, s4, s5⟩ := erase_step HA.out HB2.out hr1 hr2 HT2.out HM2.out hown3 hgrow3 (told_of hat3)
            have HS2 := Lib.hid s2; have HS3 := Lib.hid s3; have HS4 := Lib.hid s4; have HS5 := Lib.hid s5
            clear hown hflat hown' hr1 hr2 hown3 hgrow3 hat3 hlt3 s2 s3 s4 s5
            refine HK2.out _ _ ((HS5.out _ (Nat.le_refl _) (by have := lt_of_block HN1.out; have := hb2x.size; simp; omega)).trans ((hb2x.alloc hb2x.size _).block _ (lt_of_block HN1.out) |>.trans HN1.out)) (fun hHeld => ?_)
            clear HK2
            try simp only [Act.put, List.getElem_toArray, List.getElem_cons_succ, List.getElem_cons_zero, List.setIfInBounds_toArray, List.set_cons_zero, List.set_cons_succ]
            clear K
            refine wpAnyH_ready (rs := [6]) (by kernel_rfl) (by simp) ?_
            refine AllReadyH.cons rfl (fun K hK => ?_) AllReadyH.nil
            have HK2 := Lib.hid hK
            clear hK
            try rw [if_pos (by rfl)]
            go_simp
            refine HK2.out _ _ ((HS5.out _ (Nat.le_refl _) (by have := lt_of_block HN1.out; have := hb2x.size; simp; omega)).trans ((hb2x.alloc hb2x.size _).block _ (lt_of_block HN1.out) |>.trans HN1.out)) (fun hHeld => ?_)
            clear HK2
            try simp only [Act.put, List.getElem_toArray, List.getElem_cons_succ, List.getElem_cons_zero, List.setIfInBounds_toArray, List.set_cons_zero, List.set_cons_succ]
            clear K
            refine wpAnyH_ready (rs := [7]) (by kernel_rfl) (by simp) ?_
            refine AllReadyH.cons rfl (fun K hK => ?_) AllReadyH.nil
            have HK2 := Lib.hid hK
            clear hK
            try rw [if_pos (by rfl)]
            go_simp
            refine HK2.out _ _ ((Below.heap_setCell _ _ _ _ (by show wr.heap.size ≠ w.heap.size + 2; have := HL2.out; omega)).trans ((HS5.out _ (Nat.le_refl _) (by have := lt_of_block HN1.out; have := hb2x.size; simp; omega)).trans ((hb2x.alloc hb2x.size _).block _ (lt_of_block HN1.out) |>.trans HN1.out))) (fun hHeld => ?_)
            clear HK2
            try simp only [Act.put, List.getElem_toArray, List.getElem_cons_succ, List.getElem_cons_zero, List.setIfInBounds_toArray, List.set_cons_zero, List.set_cons_succ]
            clear K
            refine wpAnyH_done (by kernel_rfl) ?_ _
            clear hHeld
            go_wp2_with (fail)
            go_roundw
            case rel => first | exact ⟨j + 1, some ⟨gg, 0, none⟩, cap, by omega, by go_num, Lib.hid (by rw [HTK.out]; exact HS2.out)⟩ | exact ⟨j + 1, by omega, by go_num, some ⟨gg, 0, none⟩, cap, Lib.hid (by rw [HTK.out]; exact HS2.out)⟩
            case measure => simp [intOf]; omega
          · have HK2 := Lib.hid hK
            clear hK
            try rw [if_pos (by rfl)]
            go_simp
            refine HCALL.out.mono ?_
            rintro en w2 ⟨q2, c2, rfl, hT2, hb2d⟩
            have hb2x := undrew' hb2d
            have hb2 : Below wr.heap.size wr w2 := below_then HBW.out hb2x HBW.out.size
            have hm2' : wr.heap.size ≤ W1.drew.heap.size := HBW.out.size
            have HT2 := Lib.hid hT2; have HB2 := Lib.hid hb2; have HM2 := Lib.hid hm2'
            clear hT2 hb2d hm2'
            refine HK2.out _ _ (hb2x.block _ (lt_of_block HN1.out) |>.trans HN1.out) (fun hHeld => ?_)
            clear HK2
            try simp only [Act.put, List.getElem_toArray, List.getElem_cons_succ, List.getElem_cons_zero, List.setIfInBounds_toArray, List.set_cons_zero, List.set_cons_succ]
            clear K
            have q8 : w2.cell? ⟨w.heap.size + 2, 7, none⟩ = some (.slice a j c0) := by have := (HB2.out.block _ HL2.out).trans HOUT.out; simp [World.cell?, this]
            have q9 : w.heap.size + 2 < w2.heap.size := by have := HB2.out.size; have := HL2.out; omega
            refine wpAnyH_ready (rs := [1, 4]) (by kernel_rfl) (by simp) ?_
            refine AllReadyH.cons rfl (fun K hK => ?_) (AllReadyH.cons rfl (fun K hK => ?_) AllReadyH.nil)
            · have HK2 := Lib.hid hK
              clear hK
              try rw [if_pos (by rfl)]
              go_simp
              refine HK2.out _ _ (hb2x.block _ (lt_of_block HN1.out) |>.trans HN1.out) (fun hHeld => ?_)
              clear HK2
              try simp only [Act.put, List.getElem_toArray, List.getElem_cons_succ, List.getElem_cons_zero, List.setIfInBounds_toArray, List.set_cons_zero, List.set_cons_succ]
              clear K
              refine wpAnyH_ready (rs := [4]) (by kernel_rfl) (by simp) ?_
              refine AllReadyH.cons rfl (fun K hK => ?_) AllReadyH.nil
              have HK2 := Lib.hid hK
              clear hK
              have hz2 : w2.heap.size = w2.heap.size := rfl
              try rw [if_pos (by rfl)]
              go_simp
              refine HK2.out _ _ ((hb2x.alloc hb2x.size _).block _ (lt_of_block HN1.out) |>.trans HN1.out) (fun hHeld => ?_)
              clear HK2
              try simp only [Act.put, List.getElem_toArray, List.getElem_cons_succ, List.getElem_cons_zero, List.setIfInBounds_toArray, List.set_cons_zero, List.set_cons_succ]
              clear K
              refine wpAnyH_ready (rs := [5]) (by kernel_rfl) (by simp) ?_
              refine AllReadyH.cons rfl (fun K hK => ?_) AllReadyH.nil
              have HK2 := Lib.hid hK
              clear hK
              obtain ⟨xs, hown, hflat⟩ := HROW.out
              have hown' : wr.ownsRow (w.heap.size + 3) 44 8 (.slice a j c0) j xs := by rw [HA.out.len] at hown; exact hown
              have hr1 : (w2.alloc (.cells #[.int .u8 u.h.k, .int .u8 u.h.op, .int .i64 u.h.pl, .int .i64 u.h.n, .string u.h.name, .string u.h.arg, .string u.h.exn, .slice q2 u.ks.length c2] 44)).ownsRow (w.heap.size + 3) 44 8 (.slice a j c0) j xs := own_below hown' (HB2.out.alloc HB2.out.size _)
              have hr2 : Term.Flat (veil (seen (w.heap.size + 3) (.slice a j c0)) (w2.alloc (.cells #[.int .u8 u.h.k, .int .u8 u.h.op, .int .i64 u.h.pl, .int .i64 u.h.n, .string u.h.name, .string u.h.arg, .string u.h.exn, .slice q2 u.ks.length c2] 44))) xs (eraseK (t.ks.take j)) := hflat.reads (veil_to fun b hbl hp => ⟨hp, (HB2.out.alloc HB2.out.size _).block b hbl⟩)
              refine step_append_lies _ (by rfl) _ _ _ (by rfl) (w.heap.size + 3) 44 i0 _ 8 96 Tryd.underlying42 HI0.out HZ0.out HZ1.out HZ2.out rfl (by omega) (.slice a j c0) j xs (by rfl) hr1 ⟨w2.heap.size, 0, none⟩ 1 1 (tcells u.h q2 u.ks.length c2) (by rfl) (by rfl) (new8 rfl) (cells_one8 _ _ _ _) (by omega) (by unfold maxLen; omega) (by omega) (by have := HB2.out.size; have := HL2.out; simp; omega) (w2.heap.size + 1) (by simp) ?_
              intro gg cap w3 hown3 hgrow3 hat3 hlt3
              obtain ⟨⟨s0, s1⟩, s2, s3, s4, s5⟩ := erase_step HA.out HB2.out hr1 hr2 HT2.out HM2.out hown3 hgrow3 (told_of hat3)
              have HS2 := Lib.hid s2; have HS3 := Lib.hid s3; have HS4 := Lib.hid s4; have HS5 := Lib.hid s5
              clear hown hflat hown' hr1 hr2 hown3 hgrow3 hat3 hlt3 s2 s3 s4 s5
              refine HK2.out _ _ ((HS5.out _ (Nat.le_refl _) (by have := lt_of_block HN1.out; have := hb2x.size; simp; omega)).trans ((hb2x.alloc hb2x.size _).block _ (lt_of_block HN1.out) |>.trans HN1.out)) (fun hHeld => ?_)
              clear HK2
              try simp only [Act.put, List.getElem_toArray, List.getElem_cons_succ, List.getElem_cons_zero, List.setIfInBounds_toArray, List.set_cons_zero, List.set_cons_succ]
              clear K
              refine wpAnyH_ready (rs := [6]) (by kernel_rfl) (by simp) ?_
              refine AllReadyH.cons rfl (fun K hK => ?_) AllReadyH.nil
              have HK2 := Lib.hid hK
              clear hK
              try rw [if_pos (by rfl)]
              go_simp
              refine HK2.out _ _ ((HS5.out _ (Nat.le_refl _) (by have := lt_of_block HN1.out; have := hb2x.size; simp; omega)).trans ((hb2x.alloc hb2x.size _).block _ (lt_of_block HN1.out) |>.trans HN1.out)) (fun hHeld => ?_)
              clear HK2
              try simp only [Act.put, List.getElem_toArray, List.getElem_cons_succ, List.getElem_cons_zero, List.setIfInBounds_toArray, List.set_cons_zero, List.set_cons_succ]
              clear K
              refine wpAnyH_ready (rs := [7]) (by kernel_rfl) (by simp) ?_
              refine AllReadyH.cons rfl (fun K hK => ?_) AllReadyH.nil
              have HK2 := Lib.hid hK
              clear hK
              try rw [if_pos (by rfl)]
              go_simp
              refine HK2.out _ _ ((Below.heap_setCell _ _ _ _ (by show wr.heap.size ≠ w.heap.size + 2; have := HL2.out; omega)).trans ((HS5.out _ (Nat.le_refl _) (by have := lt_of_block HN1.out; have := hb2x.size; simp; omega)).trans ((hb2x.alloc hb2x.size _).block _ (lt_of_block HN1.out) |>.trans HN1.out))) (fun hHeld => ?_)
              clear HK2
              try simp only [Act.put, List.getElem_toArray, List.getElem_cons_succ, List.getElem_cons_zero, List.setIfInBounds_toArray, List.set_cons_zero, List.set_cons_succ]
              clear K
              refine wpAnyH_done (by kernel_rfl) ?_ _
              clear hHeld
              go_wp2_with (fail)
              go_roundw
              case rel => first | exact ⟨j + 1, some ⟨gg, 0, none⟩, cap, by omega, by go_num, Lib.hid (by rw [HTK.out]; exact HS2.out)⟩ | exact ⟨j + 1, by omega, by go_num, some ⟨gg, 0, none⟩, cap, Lib.hid (by rw [HTK.out]; exact HS2.out)⟩
              case measure => simp [intOf]; omega
            · have HK2 := Lib.hid hK
              clear hK
              have hz2 : w2.heap.size = w2.heap.size := rfl
              try rw [if_pos (by rfl)]
              go_simp
              refine HK2.out _ _ ((hb2x.alloc hb2x.size _).block _ (lt_of_block HN1.out) |>.trans HN1.out) (fun hHeld => ?_)
              clear HK2
              try simp only [Act.put, List.getElem_toArray, List.getElem_cons_succ, List.getElem_cons_zero, List.setIfInBounds_toArray, List.set_cons_zero, List.set_cons_succ]
              clear K
              refine wpAnyH_ready (rs := [1]) (by kernel_rfl) (by simp) ?_
              refine AllReadyH.cons rfl (fun K hK => ?_) AllReadyH.nil
              have HK2 := Lib.hid hK
              clear hK
              try rw [if_pos (by rfl)]
              go_simp
              refine HK2.out _ _ ((hb2x.alloc hb2x.size _).block _ (lt_of_block HN1.out) |>.trans HN1.out) (fun hHeld => ?_)
              clear HK2
              try simp only [Act.put, List.getElem_toArray, List.getElem_cons_succ, List.getElem_cons_zero, List.setIfInBounds_toArray, List.set_cons_zero, List.set_cons_succ]
              clear K
              refine wpAnyH_ready (rs := [5]) (by kernel_rfl) (by simp) ?_
              refine AllReadyH.cons rfl (fun K hK => ?_) AllReadyH.nil
              have HK2 := Lib.hid hK
              clear hK
              obtain ⟨xs, hown, hflat⟩ := HROW.out
              have hown' : wr.ownsRow (w.heap.size + 3) 44 8 (.slice a j c0) j xs := by rw [HA.out.len] at hown; exact hown
              have hr1 : (w2.alloc (.cells #[.int .u8 u.h.k, .int .u8 u.h.op, .int .i64 u.h.pl, .int .i64 u.h.n, .string u.h.name, .string u.h.arg, .string u.h.exn, .slice q2 u.ks.length c2] 44)).ownsRow (w.heap.size + 3) 44 8 (.slice a j c0) j xs := own_below hown' (HB2.out.alloc HB2.out.size _)
              have hr2 : Term.Flat (veil (seen (w.heap.size + 3) (.slice a j c0)) (w2.alloc (.cells #[.int .u8 u.h.k, .int .u8 u.h.op, .int .i64 u.h.pl, .int .i64 u.h.n, .string u.h.name, .string u.h.arg, .string u.h.exn, .slice q2 u.ks.length c2] 44))) xs (eraseK (t.ks.take j)) := hflat.reads (veil_to fun b hbl hp => ⟨hp, (HB2.out.alloc HB2.out.size _).block b hbl⟩)
              refine step_append_lies _ (by rfl) _ _ _ (by rfl) (w.heap.size + 3) 44 i0 _ 8 96 Tryd.underlying42 HI0.out HZ0.out HZ1.out HZ2.out rfl (by omega) (.slice a j c0) j xs (by rfl) hr1 ⟨w2.heap.size, 0, none⟩ 1 1 (tcells u.h q2 u.ks.length c2) (by rfl) (by rfl) (new8 rfl) (cells_one8 _ _ _ _) (by omega) (by unfold maxLen; omega) (by omega) (by have := HB2.out.size; have := HL2.out; simp; omega) (w2.heap.size + 1) (by simp) ?_
              intro gg cap w3 hown3 hgrow3 hat3 hlt3
              obtain ⟨⟨s0, s1⟩, s2, s3, s4, s5⟩ := erase_step HA.out HB2.out hr1 hr2 HT2.out HM2.out hown3 hgrow3 (told_of hat3)
              have HS2 := Lib.hid s2; have HS3 := Lib.hid s3; have HS4 := Lib.hid s4; have HS5 := Lib.hid s5
              clear hown hflat hown' hr1 hr2 hown3 hgrow3 hat3 hlt3 s2 s3 s4 s5
              refine HK2.out _ _ ((HS5.out _ (Nat.le_refl _) (by have := lt_of_block HN1.out; have := hb2x.size; simp; omega)).trans ((hb2x.alloc hb2x.size _).block _ (lt_of_block HN1.out) |>.trans HN1.out)) (fun hHeld => ?_)
              clear HK2
              try simp only [Act.put, List.getElem_toArray, List.getElem_cons_succ, List.getElem_cons_zero, List.setIfInBounds_toArray, List.set_cons_zero, List.set_cons_succ]
              clear K
              refine wpAnyH_ready (rs := [6]) (by kernel_rfl) (by simp) ?_
              refine AllReadyH.cons rfl (fun K hK => ?_) AllReadyH.nil
              have HK2 := Lib.hid hK
              clear hK
              try rw [if_pos (by rfl)]
              go_simp
              refine HK2.out _ _ ((HS5.out _ (Nat.le_refl _) (by have := lt_of_block HN1.out; have := hb2x.size; simp; omega)).trans ((hb2x.alloc hb2x.size _).block _ (lt_of_block HN1.out) |>.trans HN1.out)) (fun hHeld => ?_)
              clear HK2
              try simp only [Act.put, List.getElem_toArray, List.getElem_cons_succ, List.getElem_cons_zero, List.setIfInBounds_toArray, List.set_cons_zero, List.set_cons_succ]
              clear K
              refine wpAnyH_ready (rs := [7]) (by kernel_rfl) (by simp) ?_
              refine AllReadyH.cons rfl (fun K hK => ?_) AllReadyH.nil
              have HK2 := Lib.hid hK
              clear hK
              try rw [if_pos (by rfl)]
              go_simp
              refine HK2.out _ _ ((Below.heap_setCell _ _ _ _ (by show wr.heap.size ≠ w.heap.size + 2; have := HL2.out; omega)).trans ((HS5.out _ (Nat.le_refl _) (by have := lt_of_block HN1.out; have := hb2x.size; simp; omega)).trans ((hb2x.alloc hb2x.size _).block _ (lt_of_block HN1.out) |>.trans HN1.out))) (fun hHeld => ?_)
              clear HK2
              try simp only [Act.put, List.getElem_toArray, List.getElem_cons_succ, List.getElem_cons_zero, List.setIfInBounds_toArray, List.set_cons_zero, List.set_cons_succ]
              clear K
              refine wpAnyH_done (by kernel_rfl) ?_ _
              clear hHeld
              go_wp2_with (fail)
              go_roundw
              case rel => first | exact ⟨j + 1, some ⟨gg, 0, none⟩, cap, by omega, by go_num, Lib.hid (by rw [HTK.out]; exact HS2.out)⟩ | exact ⟨j + 1, by omega, by go_num, some ⟨gg, 0, none⟩, cap, Lib.hid (by rw [HTK.out]; exact HS2.out)⟩
              case measure => simp [intOf]; omega
        · obtain rfl : j = l := by omega
          have hk := List.take_of_length_le (l := t.ks) (i := j) (by rw [HT.out.len]; exact Nat.le_refl _)
          have HKK := Lib.hid hk
          have ha := HA.out
          obtain ⟨⟨o0, o1, o2, o3, o4, o5, o6, o7⟩, -⟩ := cells8t ha.out
          obtain ⟨⟨r0, r1, r2, r3, r4, r5, r6, r7⟩, g0, g1, g2, g3, g4, g5, g6, g7⟩ := cells8t ha.res
          clear hk ha
          go_wp2_with (fail)
          refine bodyPost_ret (v := .agg #[.int .u8 (bareH h).k, .int .u8 h.h.op, .int .i64 h.h.pl, .int .i64 h.h.n, .string h.h.name, .string h.h.arg, .string h.h.exn, .slice a j c0]) (by simp [results, Tryd.results17, go_sem, r0, r1, r2, r3, r4, r5, r6, r7]) rfl ?_
          have ha := HA.out
          rw [HKK.out] at ha
          rw [HER.out]
          exact erase_end HT.out.ok.hd ha (fun b hb => set8_other _ _ _ _ _ _ _ _ _ _ hb) (ha.below.trans ((set8_below _ _ _ _ _ _ _ _ (Nat.le_refl _)).mono (by omega)))
end Aterm
end Go.Proofs.YtolpdhkgkjnbfaaDoor
