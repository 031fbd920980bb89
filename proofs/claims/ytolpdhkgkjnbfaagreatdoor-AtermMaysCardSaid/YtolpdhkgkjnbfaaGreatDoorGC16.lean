/-The program's way through all nodes of terms with regions: the walk, with the closure of May. (Written by wip/tools/atfold.py.) The program's May of terms with regions. (Written by wip/tools/atsizep.py.) The program's way through all nodes of terms with regions: the walk, with the closure of each. (Written by wip/tools/atfold.py.) The program's Size of terms with regions. (Written by wip/tools/atsizep.py.) -/
import Derived.Test.YtolpdhkgkjnbfaaGreatDoorGC09
import Derived.Test.YtolpdhkgkjnbfaaGreatDoorGC11
import Derived.Test.YtolpdhkgkjnbfaaGreatDoorGC14
namespace Go.Proofs.YtolpdhkgkjnbfaaGreatDoor
open Go.RowKit
set_option linter.unusedVariables false
set_option linter.unusedSimpArgs false
namespace Aterm
open Rt (box_new box_at below_then)
open Effect (ret_bool ret_i64 lt_of_block heap_alloc_new)

set_option maxRecDepth 10000 in
set_option maxHeartbeats 6400000 in
theorem allMay_walk {σ : Type} (B : σ → AT → Bool) (S : σ → AT → σ) (C : Hd → Nat → Bool) (w0 : World) (P : Nat → Option Obj → Prop) (K0 : Nat) (I : Nat → σ → World → Prop) (hI : Goes w0 P I) (hC : Steps 19 [.pointer (some ⟨K0, 0, none⟩)] B S C w0 P I) :
    ∀ (m : Nat) (ts : List AT) (p : Option Addr) (l d r : Nat) (s : σ) (w : World), wts ts ≤ m → ts.length = l → l ≤ maxLen → (∀ W, Tch P w W → RowS w0 W p ts) → Below w0.heap.size w0 w → allK C ts = true → I (r + wts ts) s w →
    Calls Tryz.prog 18 #[.func (.func 19) #[] #[.pointer (some ⟨K0, 0, none⟩)], .slice p l d] w (FoEnd P (I r) (foK B S ts s) w) := by
  have GI := Lib.hid hI; have GC := Lib.hid hC
  clear hI hC
  intro m
  induction m using Nat.strongRecOn with
  | _ m ih =>
    intro ts p l d r s w hm hl hlm hk hb00 hcc hi
    unfold maxLen at hlm
    have HM := Lib.hid hm; have HL := Lib.hid hl; have HK := Lib.hid hk; have HI := Lib.hid hi; have IH := Lib.hid ih; have HB00 := Lib.hid hb00; have HCC := Lib.hid hcc
    clear hm hl hk hi ih hb00 hcc
    go_enter Tryz.func18, Tryz.ntmps18
    go_wp2_with (fail)
    go_loopw [6, 9] (fun _ i wr => ∃ (j : Nat) (u : σ), j ≤ l ∧ i = .int .i64 j ∧ Hid (foK B S ts s = foK B S (ts.drop j) u) ∧ Hid (I (r + wts (ts.drop j)) u wr) ∧ Hid (Tch P w wr)) (fun _ i _ => l - (intOf i).toNat)
    case atStart => exact ⟨0, s, Nat.zero_le _, rfl, Lib.hid (by rw [List.drop_zero]), Lib.hid (by rw [List.drop_zero]; exact HI.out), Lib.hid (Tch.refl _)⟩
    case round =>
      obtain ⟨j, u, hj, rfl, HF, HJ, HS⟩ := hrel
      by_cases hlt : j < l
      · have hjk : j < ts.length := by rw [HL.out]; exact hlt
        obtain ⟨b, o, v, rfl, hkid, hrg⟩ := HK.out wr HS.out j hjk
        have hbr : Below w0.heap.size w0 wr := HS.out.below GI.out.low HB00.out (Nat.le_refl _)
        have hcj := allK_get _ hjk HCC.out
        rw [allT_eq, Bool.and_eq_true] at hcj
        have hwd := wts_drop' ts j hjk
        have hwm : wts (tget ts j).ks < wts ts := by have h1 := wts_get hjk; have h2 := wt_ks (tget ts j); omega
        have hin : I ((r + wts (ts.drop (j + 1))) + wts (tget ts j).ks + 1) u wr := GI.out.less _ _ _ _ HJ.out (by omega)
        have hnew := GI.out.new _ _ _ HJ.out
        have HJK := Lib.hid hjk; have HKID := Lib.hid hkid; have HWM := Lib.hid hwm; have HIN := Lib.hid hin; have HRG := Lib.hid hrg; have HBR := Lib.hid hbr; have HCJ := Lib.hid hcj; have HNEW := Lib.hid hnew
        clear hjk hkid hwd hwm hin hrg hbr hcj hnew
        go_upto_region 4 with (first | refine at_load rfl _ rfl b (o + j * 19) rfl HRG.out ?_ | refine at_store rfl _ _ rfl _ rfl (tget ts j).h v (tget ts j).ks.length rfl rfl ?_)
        obtain ⟨W0, hW0⟩ : ∃ W0, W0 = wr.alloc (.cells #[.int .u8 (tget ts j).h.h.k, .int .u8 (tget ts j).h.h.op, .int .i64 (tget ts j).h.h.pl, .int .i64 (tget ts j).h.h.n, .string (tget ts j).h.h.name, .string (tget ts j).h.h.arg, .string (tget ts j).h.h.exn, .int .i64 (tget ts j).h.rho, .slice v.ra (tget ts j).h.rhos.length v.rc, .slice v.ea (tget ts j).h.e.length v.ec, .int .u8 (tget ts j).h.ty.h.k, .int .i64 (tget ts j).h.ty.h.r, .slice v.tea (tget ts j).h.ty.h.e.length v.tec, .slice v.tka (tget ts j).h.ty.ks.length v.tkc, .int .u8 (tget ts j).h.re.h.k, .int .i64 (tget ts j).h.re.h.r, .slice v.sea (tget ts j).h.re.h.e.length v.sec, .slice v.ska (tget ts j).h.re.ks.length v.skc, .slice v.ka (tget ts j).ks.length v.kc] 31) := ⟨_, rfl⟩
        have hbx : Box W0 wr.heap.size (tget ts j).h v (tget ts j).ks.length := by rw [hW0]; exact box_of (w := wr) (h := (tget ts j).h) (v := v) (l := (tget ts j).ks.length)
        have hb0 : Below wr.heap.size wr W0 := by rw [hW0]; exact box_new _
        have hnp : ¬ P wr.heap.size W0.heap[wr.heap.size]? := by
          rw [hW0, heap_alloc_new]
          exact HNEW.out _ _
        rw [← hW0]
        clear hW0
        have HSA := Lib.hid (HS.out.trans (Tch.of_below hb0))
        have HST := Lib.hid (GI.out.keep _ _ _ _ HIN.out hb0); have HBR0 := Lib.hid (below_then HBR.out hb0 HBR.out.size)
        generalize hN0 : wr.heap.size = N0 at hbx hnp ⊢
        have HNP := Lib.hid hnp; have HBX := Lib.hid hbx; have HRB := Lib.hid hbx.range
        clear hb0 hN0 hbx hnp
        go_wp2_with (refine at_load rfl _ rfl N0 0 rfl HRB.out ?_)
        refine (GC.out _ _ _ (tget ts j) (tget ts j).h v (tget ts j).ks.length HST.out HKID.out HCJ.out.1 HBR0.out).mono ?_
        rintro e w1 ⟨rfl, hi1, hs1⟩
        obtain ⟨b0, b1, b2, b3, b4, b5, b6, b7, b8, b9, b10, b11, b12, b13, b14, b15, b16, b17, b18⟩ := hs1.box HBX.out HNP.out
        clear b0 b1 b2 b3 b4 b5 b6 b7 b8 b9 b10 b11 b12 b13 b14 b15 b16 b17
        have HI1 := Lib.hid hi1
        have HS1 := Lib.hid (HSA.out.trans hs1)
        clear hi1 hs1
        cases hb : B u (tget ts j)
        · have hno := foK_no B S HJK.out hb
          have hi2 := GI.out.less _ r _ _ HI1.out (by omega)
          have HNO := Lib.hid hno; have HB := Lib.hid hb; have HI2 := Lib.hid hi2
          clear hno hb hi2
          go_wp2_with (fail)
          go_ret
          exact ⟨ret_bool (by rw [HF.out, HNO.out]), by rw [HF.out, HNO.out]; exact HI2.out, HS1.out⟩
        · have HB := Lib.hid hb
          clear hb
          go_wp2_with (fail)
          refine (IH.out (wts (tget ts j).ks) (by have := HWM.out; have := HM.out; omega) (tget ts j).ks v.ka _ v.kc (r + wts (ts.drop (j + 1))) _ _ (Nat.le_refl _) rfl (Nat.le_trans HKID.out.cap.1 HKID.out.cap.2) (fun W hW => rowS_kids HKID.out.kids ((HS1.out.trans hW).below GI.out.low HB00.out (Nat.le_refl _))) (HS1.out.below GI.out.low HB00.out (Nat.le_refl _)) HCJ.out.2 HI1.out).mono ?_
          rintro e w2 ⟨rfl, hi3, hs3⟩
          have HI3 := Lib.hid hi3
          have HS3 := Lib.hid (HS1.out.trans hs3)
          clear hi3 hs3 b18
          cases hk : (foK B S (tget ts j).ks (S u (tget ts j))).1
          · have hno := foK_kno B S HJK.out HB.out hk
            have hi4 := GI.out.less _ r _ _ HI3.out (by omega)
            have HNO := Lib.hid hno; have HKB := Lib.hid hk; have HI4 := Lib.hid hi4
            clear hno hk hi4
            go_wp2_with (fail)
            go_ret
            exact ⟨ret_bool (by rw [HF.out, HNO.out]), by rw [HF.out, HNO.out]; exact HI4.out, HS3.out⟩
          · have hyes := foK_yes B S HJK.out HB.out hk
            have HYES := Lib.hid hyes; have HKB := Lib.hid hk
            clear hyes hk
            go_wp2_with (fail)
            go_roundw
            case rel => exact ⟨j + 1, _, by omega, by go_num, Lib.hid (HF.out.trans HYES.out), HI3, HS3⟩
            case measure => simp [intOf]; omega
      · obtain rfl : j = l := by omega
        have hr := HF.out
        have hi := HJ.out
        rw [List.drop_eq_nil_of_le (by rw [HL.out]; exact Nat.le_refl _)] at hr hi
        rw [foK_nil] at hr
        rw [wts_nil] at hi
        have HR := Lib.hid hr; have HI2 := Lib.hid hi
        clear hr hi
        go_wp2_with (fail)
        go_ret
        exact ⟨ret_bool (by rw [HR.out]), by rw [HR.out]; exact HI2.out, HS.out⟩
end Aterm
end Go.Proofs.YtolpdhkgkjnbfaaGreatDoor
namespace Go.Proofs.YtolpdhkgkjnbfaaGreatDoor
open Go.RowKit
set_option linter.unusedVariables false
set_option linter.unusedSimpArgs false
namespace Aterm
open Effect (RdI nget nget_at nget_mem ret_bool ret_i64 lt_of_block heap_alloc_new ofA)
open Rt (box_new box_at below_then)

/-- How many nodes may still come. -/
structure MayAt (w0 : World) (N : Nat) (s : Int) (W : World) : Prop where
  box : W.heap[N]? = some (.cells #[.int .i64 s] 3 (0, 0))
  low : w0.heap.size ≤ N
def MayP (N : Nat) (k : Nat) (_ : Option Obj) : Prop := k = N
def MayI (w0 : World) (N : Nat) (r : Nat) (s : Int) (W : World) : Prop := MayAt w0 N s W ∧ s ≤ 40000 ∧ -1000000 ≤ s - r
theorem MayI.goes {w0 : World} {N : Nat} (hN : w0.heap.size ≤ N) : Goes w0 (MayP N) (MayI w0 N) where
  low := fun k O hk h => by have h' : k = N := h; omega
  new := fun r s W h cs fz hp => by
    have e1 := lt_of_block h.1.box
    have h' : W.heap.size = N := hp
    omega
  keep := fun r s W W' h hb => ⟨⟨(hb.block N (lt_of_block h.1.box)).trans h.1.box, h.1.low⟩, h.2⟩
  less := fun r r' s W h hr => ⟨h.1, h.2.1, by have := h.2.2; omega⟩
set_option maxRecDepth 10000 in
set_option maxHeartbeats 3200000 in
theorem may1_walk (w0 : World) (N : Nat) (hkw : Words.KwLaid w0) : Steps 19 [.pointer (some ⟨N, 0, none⟩)] mayB mayS smallB w0 (MayP N) (MayI w0 N) := by
  intro r s W t h v l hi hT hC hb0
  obtain ⟨hA, hs1, hs2⟩ := hi
  have hs3 : -1000000 ≤ s := by omega
  have hB : mayB s t = (decide (0 ≤ s - 1) && nodeB h l) := by unfold mayB; rw [hT.head, hT.len]
  have hf := fun (W' : World) (hb : Below w0.heap.size w0 W') => fits_walk t h v l W' (hT.below hb) hC (hkw.below hb)
  have hset : ∀ V : World, V.heap[N]? = some (.cells #[.int .i64 s] 3 (0, 0)) → (V.setCell ⟨N, 0, none⟩ (.int .i64 (s - 1))).heap[N]? = some (.cells #[.int .i64 (s - 1)] 3 (0, 0)) ∧ Tch (MayP N) V (V.setCell ⟨N, 0, none⟩ (.int .i64 (s - 1))) := fun V hV =>
    ⟨by simp [World.setCell, Array.getElem?_modify, hV], ⟨rfl, rfl, rfl, by simp [World.setCell], fun k _ hn => Below.heap_setCell _ _ _ _ hn⟩⟩
  have HA := Lib.hid hA; have HBB := Lib.hid hB; have HF := Lib.hid hf; have HB00 := Lib.hid hb0; have HSET := Lib.hid hset; have HS2 := Lib.hid hs2
  clear hA hB hf hT hC hb0 hkw hset hs2
  show Calls Tryz.prog 19 #[.agg #[.int .u8 h.h.k, .int .u8 h.h.op, .int .i64 h.h.pl, .int .i64 h.h.n, .string h.h.name, .string h.h.arg, .string h.h.exn, .int .i64 h.rho, .slice v.ra h.rhos.length v.rc, .slice v.ea h.e.length v.ec, .int .u8 h.ty.h.k, .int .i64 h.ty.h.r, .slice v.tea h.ty.h.e.length v.tec, .slice v.tka h.ty.ks.length v.tkc, .int .u8 h.re.h.k, .int .i64 h.re.h.r, .slice v.sea h.re.h.e.length v.sec, .slice v.ska h.re.ks.length v.skc, .slice v.ka l v.kc], .pointer (some ⟨N, 0, none⟩)] W _
  go_enter Tryz.func19, Tryz.ntmps19
  go_upto_region 1 with (fail)
  obtain ⟨W0, hW0⟩ : ∃ W0, W0 = W.alloc (.cells #[.int .u8 h.h.k, .int .u8 h.h.op, .int .i64 h.h.pl, .int .i64 h.h.n, .string h.h.name, .string h.h.arg, .string h.h.exn, .int .i64 h.rho, .slice v.ra h.rhos.length v.rc, .slice v.ea h.e.length v.ec, .int .u8 h.ty.h.k, .int .i64 h.ty.h.r, .slice v.tea h.ty.h.e.length v.tec, .slice v.tka h.ty.ks.length v.tkc, .int .u8 h.re.h.k, .int .i64 h.re.h.r, .slice v.sea h.re.h.e.length v.sec, .slice v.ska h.re.ks.length v.skc, .slice v.ka l v.kc] 31) := ⟨_, rfl⟩
  have hbx : Box W0 W.heap.size h v l := by rw [hW0]; exact box_of (w := W) (h := h) (v := v) (l := l)
  have hb0 : Below W.heap.size W W0 := by rw [hW0]; exact box_new _
  rw [← hW0]
  clear hW0
  have HBW := Lib.hid hb0
  generalize hN0 : W.heap.size = N0 at hbx ⊢
  have HB0 := Lib.hid hb0; have HBX := Lib.hid hbx; have HRG := Lib.hid hbx.range
  obtain ⟨b0, b1, b2, b3, b4, b5, b6, b7, b8, b9, b10, b11, b12, b13, b14, b15, b16, b17, b18⟩ := hbx
  clear hb0 b0 b1 b2 b3 b4 b5 b6 b7 b8 b9 b10 b11 b12 b13 b14 b15 b16 b17 b18
  have hx0 := (HBW.out.block N (lt_of_block HA.out.box)).trans HA.out.box
  have cN : W0.cell? ⟨N, 0, none⟩ = some (.int .i64 s) := by simp [World.cell?, hx0]
  have fN : W0.frozen? ⟨N, 0, none⟩ = false := by simp [World.frozen?, hx0]
  have hne : ¬ MayP N N0 W0.heap[N0]? := fun h => by have h' : N0 = N := h; have := lt_of_block HA.out.box; omega
  have hst := HSET.out W0 hx0
  have HST := Lib.hid hst; have HNE := Lib.hid hne
  clear hx0 hst hne hN0
  go_upto_region 2 with (fail)
  generalize hW1 : W0.setCell ⟨N, 0, none⟩ (.int .i64 (s - 1)) = W1 at HST ⊢
  clear hW1 cN fN
  have hrg1 := HST.out.2.range HRG.out HNE.out
  have cN : W1.cell? ⟨N, 0, none⟩ = some (.int .i64 (s - 1)) := by simp [World.cell?, HST.out.1]
  have hb1 : Below w0.heap.size w0 W1 := HST.out.2.below (fun k O hk h => by have h' : k = N := h; have := HA.out.low; omega) (below_then HB00.out HBW.out HB00.out.size) (Nat.le_refl _)
  have HRG1 := Lib.hid hrg1; have HB1 := Lib.hid hb1
  clear hrg1 hb1
  by_cases h0 : 0 ≤ s - 1
  · have hB := HBB.out
    rw [decide_eq_true h0, Bool.true_and] at hB
    have HB2 := Lib.hid hB
    have d0 : decide ((0 : Int) ≤ s - 1) = true := decide_eq_true h0
    clear hB
    go_wp2_with (refine at_load_g (by first | rfl | (simp [Region.wanted, yielded, Act.put, h0]; omega)) _ rfl N0 0 rfl HRG1.out ?_)
    refine (HF.out W1 HB1.out).mono ?_
    rintro e w2 ⟨rfl, hb2⟩
    have HW2 := Lib.hid hb2
    clear hb2 cN
    generalize hX : nodeB h l = X at *
    have HX := Lib.hid hX
    clear hX
    go_wp2_with (fail)
    go_ret
    refine ⟨ret_bool (by rw [HB2.out]), ⟨⟨(HW2.out.block N (lt_of_block HST.out.1)).trans HST.out.1, HA.out.low⟩, ?_, ?_⟩, ((Tch.of_below HBW.out).trans HST.out.2).trans (Tch.of_below HW2.out)⟩
    · show s - 1 ≤ 40000
      omega
    · show -1000000 ≤ s - 1 - r
      have := HS2.out
      omega
  · have hB := HBB.out
    rw [decide_eq_false h0, Bool.false_and] at hB
    have HB2 := Lib.hid hB
    have d0 : decide ((0 : Int) ≤ s - 1) = false := decide_eq_false h0
    clear hB
    go_wp2_with (fail)
    go_ret
    refine ⟨ret_bool (by rw [HB2.out]), ⟨⟨HST.out.1, HA.out.low⟩, ?_, ?_⟩, (Tch.of_below HBW.out).trans HST.out.2⟩
    · show s - 1 ≤ 40000
      omega
    · show -1000000 ≤ s - 1 - r
      have := HS2.out
      omega
set_option maxRecDepth 10000 in
set_option maxHeartbeats 3200000 in
theorem may_walk (t : AT) (h : Hd) (v : V) (l : Nat) (w : World) (hT : AtIs w h v l t) (hw : wt t ≤ 100000) (hc : allT smallB t = true) (hkw : Words.KwLaid w) :
    Calls Tryz.prog 8 #[.agg #[.int .u8 h.h.k, .int .u8 h.h.op, .int .i64 h.h.pl, .int .i64 h.h.n, .string h.h.name, .string h.h.arg, .string h.h.exn, .int .i64 h.rho, .slice v.ra h.rhos.length v.rc, .slice v.ea h.e.length v.ec, .int .u8 h.ty.h.k, .int .i64 h.ty.h.r, .slice v.tea h.ty.h.e.length v.tec, .slice v.tka h.ty.ks.length v.tkc, .int .u8 h.re.h.k, .int .i64 h.re.h.r, .slice v.sea h.re.h.e.length v.sec, .slice v.ska h.re.ks.length v.skc, .slice v.ka l v.kc]] w fun e w' => e = .returned (.bool (mayT t)) ∧ Below w.heap.size w w' := by
  have hfo := fo_may t
  have hk1 : (foK mayB mayS [t] 40000).1 = mayT t := by
    rw [foK_cons, ← hfo]
    cases hq : (foT mayB mayS t 40000).1
    · rw [if_neg Bool.false_ne_true]
    · rw [if_pos rfl, foK_nil]
  have hcc : allK smallB [t] = true := by rw [allK_of1]; exact hc
  have hwt : wts [t] ≤ 100000 := by rw [wts_cons, wts_nil]; exact hw
  have HT := Lib.hid hT; have HK1 := Lib.hid hk1; have HCC := Lib.hid hcc; have HWT := Lib.hid hwt; have HKW := Lib.hid hkw
  clear hT hfo hk1 hcc hc hw hwt hkw
  go_enter Tryz.func8, Tryz.ntmps8
  go_upto_region 1 with (fail)
  obtain ⟨W0, hW0⟩ : ∃ W0, W0 = w.alloc (.cells #[.int .u8 h.h.k, .int .u8 h.h.op, .int .i64 h.h.pl, .int .i64 h.h.n, .string h.h.name, .string h.h.arg, .string h.h.exn, .int .i64 h.rho, .slice v.ra h.rhos.length v.rc, .slice v.ea h.e.length v.ec, .int .u8 h.ty.h.k, .int .i64 h.ty.h.r, .slice v.tea h.ty.h.e.length v.tec, .slice v.tka h.ty.ks.length v.tkc, .int .u8 h.re.h.k, .int .i64 h.re.h.r, .slice v.sea h.re.h.e.length v.sec, .slice v.ska h.re.ks.length v.skc, .slice v.ka l v.kc] 31) := ⟨_, rfl⟩
  have hbx : Box W0 w.heap.size h v l := by rw [hW0]; exact box_of (w := w) (h := h) (v := v) (l := l)
  have hb0 : Below w.heap.size w W0 := by rw [hW0]; exact box_new _
  rw [← hW0]
  clear hW0
  have HBW := Lib.hid hb0
  generalize hN0 : w.heap.size = N0 at hbx ⊢
  have HB0 := Lib.hid hb0; have HBX := Lib.hid hbx; have HRG := Lib.hid hbx.range
  obtain ⟨b0, b1, b2, b3, b4, b5, b6, b7, b8, b9, b10, b11, b12, b13, b14, b15, b16, b17, b18⟩ := hbx
  clear hb0 b0 b1 b2 b3 b4 b5 b6 b7 b8 b9 b10 b11 b12 b13 b14 b15 b16 b17 b18
  go_upto_region 2 with (fail)
  have hst : (W0.alloc (.cells #[.int .i64 40000] 3)).heap[W0.heap.size]? = some (.cells #[.int .i64 40000] 3 (0, 0)) := heap_alloc_new _ _
  have hb1 : Below W0.heap.size W0 (W0.alloc (.cells #[.int .i64 40000] 3)) := box_new _
  generalize hW1 : W0.alloc (.cells #[.int .i64 40000] 3) = W1 at hst hb1 ⊢
  have hsz : w.heap.size ≤ W0.heap.size := HBW.out.size
  have hrg1 := range_below HRG.out hb1
  have hbw1 := below_then HBW.out hb1 hsz
  have HST := Lib.hid hst; have HB1 := Lib.hid hb1; have HRG1 := Lib.hid hrg1; have HBW1 := Lib.hid hbw1
  clear hW1 hst hb1 hrg1 hbw1
  go_wp2_with (refine at_load rfl _ rfl N0 0 rfl HRG1.out ?_)
  refine (allMay_walk mayB mayS smallB w (MayP W0.heap.size) W0.heap.size (MayI w W0.heap.size) (MayI.goes hsz) (may1_walk w W0.heap.size HKW.out) (wts [t]) [t] _ 1 1 0 40000 _ (Nat.le_refl _) rfl (by unfold maxLen; omega)
    (fun W hW => row_one HT.out (hW.range (row_new rfl) (fun h => by have h' : W1.heap.size = W0.heap.size := h; have := lt_of_block HST.out; omega))) (below_then HBW1.out (box_new _) HBW1.out.size) HCC.out ⟨⟨((box_new _).block _ (lt_of_block HST.out)).trans HST.out, hsz⟩, by omega, by have := HWT.out; omega⟩).mono ?_
  rintro e w2 ⟨rfl, hi, ht⟩
  have hb2 : Below w.heap.size w w2 := ht.below (fun k O hk h => by have h' : k = W0.heap.size := h; omega) (below_then HBW1.out (box_new _) HBW1.out.size) (Nat.le_refl _)
  have HB2 := Lib.hid hb2
  clear hi ht hb2
  rw [HK1.out]
  generalize hX : mayT t = X at *
  have HX := Lib.hid hX
  clear hX
  go_wp2_with (fail)
  go_ret
  exact ⟨ret_bool HX.out.symm, HB2.out⟩
end Aterm
end Go.Proofs.YtolpdhkgkjnbfaaGreatDoor
namespace Go.Proofs.YtolpdhkgkjnbfaaGreatDoor
open Go.RowKit
set_option linter.unusedVariables false
set_option linter.unusedSimpArgs false
namespace Aterm
open Rt (box_new box_at below_then)
open Effect (ret_bool ret_i64 lt_of_block heap_alloc_new)

set_option maxRecDepth 10000 in
set_option maxHeartbeats 6400000 in
theorem allEach_walk {σ : Type} (B : σ → AT → Bool) (S : σ → AT → σ) (C : Hd → Nat → Bool) (w0 : World) (P : Nat → Option Obj → Prop) (K0 : Nat) (I : Nat → σ → World → Prop) (hI : Goes w0 P I) (hC : Steps 56 [.pointer (some ⟨K0, 0, none⟩)] B S C w0 P I) :
    ∀ (m : Nat) (ts : List AT) (p : Option Addr) (l d r : Nat) (s : σ) (w : World), wts ts ≤ m → ts.length = l → l ≤ maxLen → (∀ W, Tch P w W → RowS w0 W p ts) → Below w0.heap.size w0 w → allK C ts = true → I (r + wts ts) s w →
    Calls Tryz.prog 18 #[.func (.func 56) #[] #[.pointer (some ⟨K0, 0, none⟩)], .slice p l d] w (FoEnd P (I r) (foK B S ts s) w) := by
  have GI := Lib.hid hI; have GC := Lib.hid hC
  clear hI hC
  intro m
  induction m using Nat.strongRecOn with
  | _ m ih =>
    intro ts p l d r s w hm hl hlm hk hb00 hcc hi
    unfold maxLen at hlm
    have HM := Lib.hid hm; have HL := Lib.hid hl; have HK := Lib.hid hk; have HI := Lib.hid hi; have IH := Lib.hid ih; have HB00 := Lib.hid hb00; have HCC := Lib.hid hcc
    clear hm hl hk hi ih hb00 hcc
    go_enter Tryz.func18, Tryz.ntmps18
    go_wp2_with (fail)
    go_loopw [6, 9] (fun _ i wr => ∃ (j : Nat) (u : σ), j ≤ l ∧ i = .int .i64 j ∧ Hid (foK B S ts s = foK B S (ts.drop j) u) ∧ Hid (I (r + wts (ts.drop j)) u wr) ∧ Hid (Tch P w wr)) (fun _ i _ => l - (intOf i).toNat)
    case atStart => exact ⟨0, s, Nat.zero_le _, rfl, Lib.hid (by rw [List.drop_zero]), Lib.hid (by rw [List.drop_zero]; exact HI.out), Lib.hid (Tch.refl _)⟩
    case round =>
      obtain ⟨j, u, hj, rfl, HF, HJ, HS⟩ := hrel
      by_cases hlt : j < l
      · have hjk : j < ts.length := by rw [HL.out]; exact hlt
        obtain ⟨b, o, v, rfl, hkid, hrg⟩ := HK.out wr HS.out j hjk
        have hbr : Below w0.heap.size w0 wr := HS.out.below GI.out.low HB00.out (Nat.le_refl _)
        have hcj := allK_get _ hjk HCC.out
        rw [allT_eq, Bool.and_eq_true] at hcj
        have hwd := wts_drop' ts j hjk
        have hwm : wts (tget ts j).ks < wts ts := by have h1 := wts_get hjk; have h2 := wt_ks (tget ts j); omega
        have hin : I ((r + wts (ts.drop (j + 1))) + wts (tget ts j).ks + 1) u wr := GI.out.less _ _ _ _ HJ.out (by omega)
        have hnew := GI.out.new _ _ _ HJ.out
        have HJK := Lib.hid hjk; have HKID := Lib.hid hkid; have HWM := Lib.hid hwm; have HIN := Lib.hid hin; have HRG := Lib.hid hrg; have HBR := Lib.hid hbr; have HCJ := Lib.hid hcj; have HNEW := Lib.hid hnew
        clear hjk hkid hwd hwm hin hrg hbr hcj hnew
        go_upto_region 4 with (first | refine at_load rfl _ rfl b (o + j * 19) rfl HRG.out ?_ | refine at_store rfl _ _ rfl _ rfl (tget ts j).h v (tget ts j).ks.length rfl rfl ?_)
        obtain ⟨W0, hW0⟩ : ∃ W0, W0 = wr.alloc (.cells #[.int .u8 (tget ts j).h.h.k, .int .u8 (tget ts j).h.h.op, .int .i64 (tget ts j).h.h.pl, .int .i64 (tget ts j).h.h.n, .string (tget ts j).h.h.name, .string (tget ts j).h.h.arg, .string (tget ts j).h.h.exn, .int .i64 (tget ts j).h.rho, .slice v.ra (tget ts j).h.rhos.length v.rc, .slice v.ea (tget ts j).h.e.length v.ec, .int .u8 (tget ts j).h.ty.h.k, .int .i64 (tget ts j).h.ty.h.r, .slice v.tea (tget ts j).h.ty.h.e.length v.tec, .slice v.tka (tget ts j).h.ty.ks.length v.tkc, .int .u8 (tget ts j).h.re.h.k, .int .i64 (tget ts j).h.re.h.r, .slice v.sea (tget ts j).h.re.h.e.length v.sec, .slice v.ska (tget ts j).h.re.ks.length v.skc, .slice v.ka (tget ts j).ks.length v.kc] 31) := ⟨_, rfl⟩
        have hbx : Box W0 wr.heap.size (tget ts j).h v (tget ts j).ks.length := by rw [hW0]; exact box_of (w := wr) (h := (tget ts j).h) (v := v) (l := (tget ts j).ks.length)
        have hb0 : Below wr.heap.size wr W0 := by rw [hW0]; exact box_new _
        have hnp : ¬ P wr.heap.size W0.heap[wr.heap.size]? := by
          rw [hW0, heap_alloc_new]
          exact HNEW.out _ _
        rw [← hW0]
        clear hW0
        have HSA := Lib.hid (HS.out.trans (Tch.of_below hb0))
        have HST := Lib.hid (GI.out.keep _ _ _ _ HIN.out hb0); have HBR0 := Lib.hid (below_then HBR.out hb0 HBR.out.size)
        generalize hN0 : wr.heap.size = N0 at hbx hnp ⊢
        have HNP := Lib.hid hnp; have HBX := Lib.hid hbx; have HRB := Lib.hid hbx.range
        clear hb0 hN0 hbx hnp
        go_wp2_with (refine at_load rfl _ rfl N0 0 rfl HRB.out ?_)
        refine (GC.out _ _ _ (tget ts j) (tget ts j).h v (tget ts j).ks.length HST.out HKID.out HCJ.out.1 HBR0.out).mono ?_
        rintro e w1 ⟨rfl, hi1, hs1⟩
        obtain ⟨b0, b1, b2, b3, b4, b5, b6, b7, b8, b9, b10, b11, b12, b13, b14, b15, b16, b17, b18⟩ := hs1.box HBX.out HNP.out
        clear b0 b1 b2 b3 b4 b5 b6 b7 b8 b9 b10 b11 b12 b13 b14 b15 b16 b17
        have HI1 := Lib.hid hi1
        have HS1 := Lib.hid (HSA.out.trans hs1)
        clear hi1 hs1
        cases hb : B u (tget ts j)
        · have hno := foK_no B S HJK.out hb
          have hi2 := GI.out.less _ r _ _ HI1.out (by omega)
          have HNO := Lib.hid hno; have HB := Lib.hid hb; have HI2 := Lib.hid hi2
          clear hno hb hi2
          go_wp2_with (fail)
          go_ret
          exact ⟨ret_bool (by rw [HF.out, HNO.out]), by rw [HF.out, HNO.out]; exact HI2.out, HS1.out⟩
        · have HB := Lib.hid hb
          clear hb
          go_wp2_with (fail)
          refine (IH.out (wts (tget ts j).ks) (by have := HWM.out; have := HM.out; omega) (tget ts j).ks v.ka _ v.kc (r + wts (ts.drop (j + 1))) _ _ (Nat.le_refl _) rfl (Nat.le_trans HKID.out.cap.1 HKID.out.cap.2) (fun W hW => rowS_kids HKID.out.kids ((HS1.out.trans hW).below GI.out.low HB00.out (Nat.le_refl _))) (HS1.out.below GI.out.low HB00.out (Nat.le_refl _)) HCJ.out.2 HI1.out).mono ?_
          rintro e w2 ⟨rfl, hi3, hs3⟩
          have HI3 := Lib.hid hi3
          have HS3 := Lib.hid (HS1.out.trans hs3)
          clear hi3 hs3 b18
          cases hk : (foK B S (tget ts j).ks (S u (tget ts j))).1
          · have hno := foK_kno B S HJK.out HB.out hk
            have hi4 := GI.out.less _ r _ _ HI3.out (by omega)
            have HNO := Lib.hid hno; have HKB := Lib.hid hk; have HI4 := Lib.hid hi4
            clear hno hk hi4
            go_wp2_with (fail)
            go_ret
            exact ⟨ret_bool (by rw [HF.out, HNO.out]), by rw [HF.out, HNO.out]; exact HI4.out, HS3.out⟩
          · have hyes := foK_yes B S HJK.out HB.out hk
            have HYES := Lib.hid hyes; have HKB := Lib.hid hk
            clear hyes hk
            go_wp2_with (fail)
            go_roundw
            case rel => exact ⟨j + 1, _, by omega, by go_num, Lib.hid (HF.out.trans HYES.out), HI3, HS3⟩
            case measure => simp [intOf]; omega
      · obtain rfl : j = l := by omega
        have hr := HF.out
        have hi := HJ.out
        rw [List.drop_eq_nil_of_le (by rw [HL.out]; exact Nat.le_refl _)] at hr hi
        rw [foK_nil] at hr
        rw [wts_nil] at hi
        have HR := Lib.hid hr; have HI2 := Lib.hid hi
        clear hr hi
        go_wp2_with (fail)
        go_ret
        exact ⟨ret_bool (by rw [HR.out]), by rw [HR.out]; exact HI2.out, HS.out⟩
end Aterm
end Go.Proofs.YtolpdhkgkjnbfaaGreatDoor
namespace Go.Proofs.YtolpdhkgkjnbfaaGreatDoor
open Go.RowKit
set_option linter.unusedVariables false
set_option linter.unusedSimpArgs false
namespace Aterm
open Effect (RdI nget nget_at nget_mem ret_bool ret_i64 lt_of_block heap_alloc_new ofA)
open Rt (box_new box_at below_then)

/-- The function that each is handed. -/
def fnBox (F N : Nat) : Obj := .cells #[.func (.func F) #[] #[.pointer (some ⟨N, 0, none⟩)]] 52 (0, 0)
set_option maxHeartbeats 1600000 in
/-- What each does with what all does. -/
theorem each_of (F N : Nat) (p : Option Addr) (l d : Nat) (w : World) (Q : World → Prop)
    (h : Calls Tryz.prog 18 #[.func (.func 56) #[] #[.pointer (some ⟨w.heap.size, 0, none⟩)], .slice p l d] (w.alloc (.cells #[.func (.func F) #[] #[.pointer (some ⟨N, 0, none⟩)]] 52)) fun en w' => (∃ b, en = .returned (.bool b)) ∧ Q w') :
    Calls Tryz.prog 32 #[.func (.func F) #[] #[.pointer (some ⟨N, 0, none⟩)], .slice p l d] w fun en w' => en = .returned (.tuple #[]) ∧ Q w' := by
  have H := Lib.hid h
  clear h
  go_enter Tryz.func32, Tryz.ntmps32
  go_wp2_with (fail)
  refine H.out.mono ?_
  rintro en w1 ⟨⟨b, rfl⟩, hq⟩
  have HQ := Lib.hid hq
  clear hq
  go_wp2_with (fail)
  go_end0
  exact ⟨rfl, HQ.out⟩

/-- The count's block, and that of the function that counts. -/
structure Cnt (w0 : World) (N E n : Nat) (W : World) : Prop where
  box : W.heap[N]? = some (.cells #[.int .i64 n] 3 (0, 0))
  fn : W.heap[E]? = some (fnBox 33 N)
  ne : E ≠ N
  low : w0.heap.size ≤ N
theorem Cnt.below {w0 : World} {N E n : Nat} {W W' : World} (h : Cnt w0 N E n W) (hb : Below W.heap.size W W') : Cnt w0 N E n W' :=
  ⟨(hb.block N (lt_of_block h.box)).trans h.box, (hb.block E (lt_of_block h.fn)).trans h.fn, h.ne, h.low⟩
def CntP (N : Nat) (k : Nat) (_ : Option Obj) : Prop := k = N
theorem Cnt.step {w0 : World} {N E n : Nat} {W : World} (h : Cnt w0 N E n W) : Cnt w0 N E (n + 1) (W.setCell ⟨N, 0, none⟩ (.int .i64 ((n : Int) + 1))) ∧ Tch (CntP N) W (W.setCell ⟨N, 0, none⟩ (.int .i64 ((n : Int) + 1))) := by
  have ho : ∀ k, k ≠ N → (W.setCell ⟨N, 0, none⟩ (.int .i64 ((n : Int) + 1))).heap[k]? = W.heap[k]? := fun k hk => Below.heap_setCell _ _ _ _ hk
  refine ⟨⟨?_, (ho _ h.ne).trans h.fn, h.ne, h.low⟩, ⟨rfl, rfl, rfl, by simp [World.setCell], fun k _ hn => ho k hn⟩⟩
  simp [World.setCell, Array.getElem?_modify, h.box]
def CntI (w0 : World) (N E : Nat) (r n : Nat) (W : World) : Prop := Cnt w0 N E n W ∧ n + r ≤ 1000000
theorem CntI.goes {w0 : World} {N E : Nat} (hN : w0.heap.size ≤ N) : Goes w0 (CntP N) (CntI w0 N E) where
  low := fun k O hk h => by have h' : k = N := h; omega
  new := fun r s W h cs fz hp => by
    have e1 := lt_of_block h.1.box
    have h' : W.heap.size = N := hp
    omega
  keep := fun r s W W' h hb => ⟨h.1.below hb, h.2⟩
  less := fun r r' s W h hr => ⟨h.1, by have := h.2; omega⟩
set_option maxRecDepth 10000 in
set_option maxHeartbeats 1600000 in
theorem size1_walk (w0 : World) (N E n : Nat) (W : World) (h : Hd) (v : V) (l : Nat) (hC : Cnt w0 N E n W) (hn : n < 1000000) :
    Calls Tryz.prog 33 #[.agg #[.int .u8 h.h.k, .int .u8 h.h.op, .int .i64 h.h.pl, .int .i64 h.h.n, .string h.h.name, .string h.h.arg, .string h.h.exn, .int .i64 h.rho, .slice v.ra h.rhos.length v.rc, .slice v.ea h.e.length v.ec, .int .u8 h.ty.h.k, .int .i64 h.ty.h.r, .slice v.tea h.ty.h.e.length v.tec, .slice v.tka h.ty.ks.length v.tkc, .int .u8 h.re.h.k, .int .i64 h.re.h.r, .slice v.sea h.re.h.e.length v.sec, .slice v.ska h.re.ks.length v.skc, .slice v.ka l v.kc], .pointer (some ⟨N, 0, none⟩)] W fun en W' => en = .returned (.tuple #[]) ∧ Cnt w0 N E (n + 1) W' ∧ Tch (CntP N) W W' := by
  have HC := Lib.hid hC
  clear hC
  go_enter Tryz.func33, Tryz.ntmps33
  go_upto_region 1 with (fail)
  obtain ⟨W0, hW0⟩ : ∃ W0, W0 = W.alloc (.cells #[.int .u8 h.h.k, .int .u8 h.h.op, .int .i64 h.h.pl, .int .i64 h.h.n, .string h.h.name, .string h.h.arg, .string h.h.exn, .int .i64 h.rho, .slice v.ra h.rhos.length v.rc, .slice v.ea h.e.length v.ec, .int .u8 h.ty.h.k, .int .i64 h.ty.h.r, .slice v.tea h.ty.h.e.length v.tec, .slice v.tka h.ty.ks.length v.tkc, .int .u8 h.re.h.k, .int .i64 h.re.h.r, .slice v.sea h.re.h.e.length v.sec, .slice v.ska h.re.ks.length v.skc, .slice v.ka l v.kc] 31) := ⟨_, rfl⟩
  have hbx : Box W0 W.heap.size h v l := by rw [hW0]; exact box_of (w := W) (h := h) (v := v) (l := l)
  have hb0 : Below W.heap.size W W0 := by rw [hW0]; exact box_new _
  rw [← hW0]
  clear hW0
  have HBW := Lib.hid hb0
  generalize hN0 : W.heap.size = N0 at hbx ⊢
  have HB0 := Lib.hid hb0; have HBX := Lib.hid hbx
  obtain ⟨b0, b1, b2, b3, b4, b5, b6, b7, b8, b9, b10, b11, b12, b13, b14, b15, b16, b17, b18⟩ := hbx
  clear hb0 hN0 b0 b1 b2 b3 b4 b5 b6 b7 b8 b9 b10 b11 b12 b13 b14 b15 b16 b17 b18
  have hc0 := HC.out.below HBW.out
  have hst := hc0.step
  have cN : W0.cell? ⟨N, 0, none⟩ = some (.int .i64 n) := by simp [World.cell?, hc0.box]
  have fN : W0.frozen? ⟨N, 0, none⟩ = false := by simp [World.frozen?, hc0.box]
  have HST := Lib.hid hst
  clear hc0 hst
  go_wp2_with (fail)
  go_end0
  exact ⟨rfl, HST.out.1, (Tch.of_below HBW.out).trans HST.out.2⟩
set_option maxRecDepth 10000 in
set_option maxHeartbeats 1600000 in
theorem eachSize_walk (w0 : World) (N E : Nat) : Steps 56 [.pointer (some ⟨E, 0, none⟩)] (fun _ _ => true) (fun n _ => n + 1) smallB w0 (CntP N) (CntI w0 N E) := by
  intro r n W t h v l hi hT hC hb0
  obtain ⟨hA, hlen⟩ := hi
  have hs1 := fun (W' : World) (hb : Below W.heap.size W W') => size1_walk w0 N E n W' h v l (hA.below hb) (by omega)
  have HA := Lib.hid hA; have HS1 := Lib.hid hs1; have HLEN := Lib.hid hlen
  clear hA hs1 hT hC hb0 hlen
  show Calls Tryz.prog 56 #[.agg #[.int .u8 h.h.k, .int .u8 h.h.op, .int .i64 h.h.pl, .int .i64 h.h.n, .string h.h.name, .string h.h.arg, .string h.h.exn, .int .i64 h.rho, .slice v.ra h.rhos.length v.rc, .slice v.ea h.e.length v.ec, .int .u8 h.ty.h.k, .int .i64 h.ty.h.r, .slice v.tea h.ty.h.e.length v.tec, .slice v.tka h.ty.ks.length v.tkc, .int .u8 h.re.h.k, .int .i64 h.re.h.r, .slice v.sea h.re.h.e.length v.sec, .slice v.ska h.re.ks.length v.skc, .slice v.ka l v.kc], .pointer (some ⟨E, 0, none⟩)] W _
  go_enter Tryz.func56, Tryz.ntmps56
  go_upto_region 1 with (fail)
  obtain ⟨W0, hW0⟩ : ∃ W0, W0 = W.alloc (.cells #[.int .u8 h.h.k, .int .u8 h.h.op, .int .i64 h.h.pl, .int .i64 h.h.n, .string h.h.name, .string h.h.arg, .string h.h.exn, .int .i64 h.rho, .slice v.ra h.rhos.length v.rc, .slice v.ea h.e.length v.ec, .int .u8 h.ty.h.k, .int .i64 h.ty.h.r, .slice v.tea h.ty.h.e.length v.tec, .slice v.tka h.ty.ks.length v.tkc, .int .u8 h.re.h.k, .int .i64 h.re.h.r, .slice v.sea h.re.h.e.length v.sec, .slice v.ska h.re.ks.length v.skc, .slice v.ka l v.kc] 31) := ⟨_, rfl⟩
  have hbx : Box W0 W.heap.size h v l := by rw [hW0]; exact box_of (w := W) (h := h) (v := v) (l := l)
  have hb0 : Below W.heap.size W W0 := by rw [hW0]; exact box_new _
  rw [← hW0]
  clear hW0
  have HBW := Lib.hid hb0
  generalize hN0 : W.heap.size = N0 at hbx ⊢
  have HB0 := Lib.hid hb0; have HBX := Lib.hid hbx; have HRG := Lib.hid hbx.range
  obtain ⟨b0, b1, b2, b3, b4, b5, b6, b7, b8, b9, b10, b11, b12, b13, b14, b15, b16, b17, b18⟩ := hbx
  clear hb0 hN0 b0 b1 b2 b3 b4 b5 b6 b7 b8 b9 b10 b11 b12 b13 b14 b15 b16 b17 b18
  have hc0 := HA.out.below HBW.out
  have cE : W0.cell? ⟨E, 0, none⟩ = some (.func (.func 33) #[] #[.pointer (some ⟨N, 0, none⟩)]) := by simp [World.cell?, hc0.fn, fnBox]
  clear hc0
  go_wp2_with (refine at_load rfl _ rfl N0 0 rfl HRG.out ?_)
  refine (HS1.out W0 HBW.out).mono ?_
  rintro en w1 ⟨rfl, hc, hs⟩
  have HC := Lib.hid hc; have HS := Lib.hid hs
  clear hc hs cE
  go_wp2_with (fail)
  go_ret
  exact ⟨rfl, ⟨HC.out, by have := HLEN.out; omega⟩, (Tch.of_below HBW.out).trans HS.out⟩
theorem fold_count : ∀ (l : List AT) (n : Nat), l.foldl (fun n _ => n + 1) n = n + l.length
  | [], n => rfl
  | h :: l, n => by rw [List.foldl_cons, fold_count l (n + 1), List.length_cons]; omega
set_option maxRecDepth 10000 in
set_option maxHeartbeats 1600000 in
theorem size_walk (ts : List AT) (p : Option Addr) (l d : Nat) (w0 w : World) (hl : ts.length = l) (hlm : l ≤ maxLen) (hk : ∀ W, Below w.heap.size w W → RowS w0 W p ts) (hb00 : Below w0.heap.size w0 w) (hw : wts ts ≤ 1000000) (hc : allK smallB ts = true) :
    Calls Tryz.prog 17 #[.slice p l d] w fun e w' => e = .returned (.int .i64 (wts ts : Nat)) ∧ Below w.heap.size w w' := by
  have hsz : (w.alloc (.cells #[.int .i64 0] 3)).heap.size = w.heap.size + 1 := by simp
  have h0 : Cnt w0 w.heap.size (w.alloc (.cells #[.int .i64 0] 3)).heap.size 0 ((w.alloc (.cells #[.int .i64 0] 3)).alloc (.cells #[.func (.func 33) #[] #[.pointer (some ⟨w.heap.size, 0, none⟩)]] 52)) := by
    refine ⟨?_, heap_alloc_new _ _, by omega, hb00.size⟩
    exact ((box_new _).block _ (by simp)).trans (heap_alloc_new _ _)
  have hbb : Below w.heap.size w ((w.alloc (.cells #[.int .i64 0] 3)).alloc (.cells #[.func (.func 33) #[] #[.pointer (some ⟨w.heap.size, 0, none⟩)]] 52)) := (box_new _).trans ((box_new _).mono (by simp))
  have hlowP : ∀ k O, k < w.heap.size → ¬ CntP w.heap.size k O := fun k O hk h => by have h' : k = w.heap.size := h; omega
  have h1 := allEach_walk (fun _ _ => true) (fun n _ => n + 1) smallB w0 (CntP w.heap.size) (w.alloc (.cells #[.int .i64 0] 3)).heap.size (CntI w0 w.heap.size (w.alloc (.cells #[.int .i64 0] 3)).heap.size) (CntI.goes hb00.size) (eachSize_walk w0 w.heap.size _) (wts ts) ts p l d 0 0 _ (Nat.le_refl _) hl hlm
    (fun W hW => hk W (hW.below hlowP hbb (Nat.le_refl _))) (below_then hb00 hbb hb00.size) hc ⟨h0, by omega⟩
  have h2 := each_of 33 w.heap.size p l d _ (fun w' => Cnt w0 w.heap.size (w.alloc (.cells #[.int .i64 0] 3)).heap.size (wts ts) w' ∧ Below w.heap.size w w') (h1.mono (by
    rintro en w' ⟨rfl, hi, hs⟩
    have hf : foK (fun _ _ => true) (fun n _ => n + 1) ts 0 = (true, wts ts) := by
      rw [foK_flat, foL_true, fold_count, (flat_len (wts ts)).2 ts (Nat.le_refl _), Nat.zero_add]
    rw [hf] at hi
    exact ⟨⟨_, rfl⟩, hi.1, hs.below hlowP hbb (Nat.le_refl _)⟩))
  have H2 := Lib.hid h2; have HW := Lib.hid hw
  clear h0 h1 h2 hk hl hlm hw hsz hbb hlowP hc hb00
  go_enter Tryz.func17, Tryz.ntmps17
  go_wp2_with (fail)
  refine H2.out.mono ?_
  rintro e w1 ⟨rfl, hC1, hb1⟩
  have c1 : w1.cell? ⟨w.heap.size, 0, none⟩ = some (.int .i64 (wts ts : Nat)) := by simp [World.cell?, hC1.box]
  have HB1 := Lib.hid hb1
  have HW2 := HW.out
  generalize hX : wts ts = X at *
  have HX := Lib.hid hX
  clear hC1 hX hb1
  go_wp2_with (fail)
  go_ret
  exact ⟨by rw [HX.out]; rfl, HB1.out⟩
end Aterm
end Go.Proofs.YtolpdhkgkjnbfaaGreatDoor
