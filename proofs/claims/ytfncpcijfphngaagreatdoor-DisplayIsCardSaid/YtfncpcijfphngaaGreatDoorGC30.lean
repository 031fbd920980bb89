/-The walks of the document's Binds of terms with regions. The walks of the document's May of terms with regions, and of 'whether any term with regions may be is the document's'. (Written by wip/tools/atmayslaw.py.) The walk of 'the text of any term, or the error, is the document's'. (Written by wip/tools/dslaws.py.) -/
import Derived.Test.YtfncpcijfphngaaGreatDoorGC16
import Derived.Test.YtfncpcijfphngaaGreatDoorGC09
import Derived.Test.YtfncpcijfphngaaGreatDoorGC29
import Derived.Deep.RegionHeld3
import Derived.Test.YtfncpcijfphngaaGreatDoorGC22
import Derived.Test.YtfncpcijfphngaaGreatDoorGC27
import Derived.Deep.DeepCutAuto

namespace Go.Proofs.YtfncpcijfphngaaGreatDoor
open Go.RowKit
set_option linter.unusedVariables false
set_option linter.unusedSimpArgs false
namespace Aterm
open Effect (RdI nget nget_at nget_mem Ixs intsV own_slice)
open Rt (box_new box_at below_then)

/-- A row of nodes that was made, as it lies later. -/
structure AllAt (w0 W : World) (g c : Nat) (F : List AT) : Prop where
 own : ∃ B xs, W.ownsRow B 31 19 (.slice (some ⟨g, 0, none⟩) F.length c) F.length xs ∧ Flat w0 xs F
theorem AllAt.below {w0 W W' : World} {g c : Nat} {F : List AT} (h : AllAt w0 W g c F) (hb : Below W.heap.size W W') : AllAt w0 W' g c F := by
 obtain ⟨B, xs, h1, h2⟩ := h.own
 exact ⟨B, xs, own_below h1 hb, h2⟩
theorem ixs_ne {B m g : Nat} {W : World} {v : Value} {l : List Int} (h : Ixs B W v m l) {cur : Array Value} {fr : Nat × Nat} (hg : W.heap[g]? = some (.cells cur 31 fr)) : some g ≠ v.ownBlock := by
 intro e
 rcases h.2 with ⟨rfl, _⟩ | ⟨k, cap, cur', rfl, _, hk, _⟩
 ·simp [Value.ownBlock] at e
 ·simp [Value.ownBlock] at e
  subst e
  rw [hg] at hk
  injection hk with hk
  injection hk with _ hk _
  exact absurd hk (by decide)
theorem AllAt.grown {w0 W W' : World} {g c B m : Nat} {F : List AT} {v : Value} {l : List Int} (h : AllAt w0 W g c F) (hi : Ixs B W v m l) (hg : W.grownBy W' v.ownBlock) : AllAt w0 W' g c F := by
 obtain ⟨B', xs, h1, h2⟩ := h.own
 refine ⟨B', xs, h1.kept hg ?_, h2⟩
 rcases h1.2 with ⟨e, _⟩ | ⟨k, cap, cur, e, _, hk, _⟩
 ·cases e
 ·injection e with e
  injection e with e
  injection e with e
  subst e
  exact .inr (ixs_ne hi hk)
theorem AllAt.get {w0 W : World} {g c : Nat} {F : List AT} (h : AllAt w0 W g c F) (j : Nat) (hj : j < F.length) :
  ∃ v, AtIs w0 (tget F j).h v (tget F j).ks.length (tget F j) ∧ W.rangeAt g (j * 19) (acells (tget F j).h v (tget F j).ks.length) := by
 obtain ⟨B, xs, h1, h2⟩ := h.own
 obtain ⟨v, h3, h4⟩ := h2.get j hj
 refine ⟨v, h3, fun i x hx => ?_⟩
 have := h1.cells (g := g) rfl _ _ (h4 i x hx)
 rw [Addr.add_lit, Nat.zero_add] at this
 exact this
theorem own_lower {W : World} {B B' e s n : Nat} {v : Value} {xs : List Value} (h : W.ownsRow B e s v n xs) (hB : B' ≤ B) : W.ownsRow B' e s v n xs :=
 ⟨h.1, h.2.imp id (fun ⟨g, cap, cur, a, b, r⟩ => ⟨g, cap, cur, a, by omega, r⟩)⟩

end Aterm
end Go.Proofs.YtfncpcijfphngaaGreatDoor
namespace Go.Proofs.YtfncpcijfphngaaGreatDoor
open Go.RowKit
set_option linter.unusedVariables false
set_option linter.unusedSimpArgs false
namespace Aterm
open Effect (RdI nget nget_at nget_mem ret_bool ret_i64 lt_of_block heap_alloc_new ofA)
open Rt (box_new box_at below_then)

theorem may_flat {t : AT} (hw : wt t ≤ 40000) : mayT t = decide (∀ j, j < (flatT t).length → nodeB (tget (flatT t) j).h (tget (flatT t) j).ks.length = true) := by
 unfold mayT
 rw [decide_eq_true hw, Bool.true_and, allT_flat, Bool.eq_iff_iff, List.all_eq_true, decide_eq_true_eq]
 constructor
 ·intro h j hj; exact h _ (tget_mem hj)
 ·intro h x hx
  obtain ⟨j, hj, rfl⟩ := List.getElem_of_mem hx
  have h1 := tget_at hj
  rw [List.getElem?_eq_getElem hj] at h1
  rw [Option.some.inj h1]; exact h j hj
theorem small_flat {t : AT} (hc : allT smallB t = true) {j : Nat} (hj : j < (flatT t).length) : smallB (tget (flatT t) j).h (tget (flatT t) j).ks.length = true := by
 rw [allT_flat, List.all_eq_true] at hc
 exact hc _ (tget_mem hj)
set_option maxRecDepth 100000 in
set_option maxHeartbeats 3200000 in
theorem refMayA_walk (t : AT) (h : Hd) (v : V) (l : Nat) (w : World) (hT : AtIs w h v l t) (hw : wt t ≤ 40000) (hc : allT smallB t = true) :
  Calls Tryz.prog 11 #[.agg #[.int .u8 h.h.k, .int .u8 h.h.op, .int .i64 h.h.pl, .int .i64 h.h.n, .string h.h.name, .string h.h.arg, .string h.h.exn, .int .i64 h.rho, .slice v.ra h.rhos.length v.rc, .slice v.ea h.e.length v.ec, .int .u8 h.ty.h.k, .int .i64 h.ty.h.r, .slice v.tea h.ty.h.e.length v.tec, .slice v.tka h.ty.ks.length v.tkc, .int .u8 h.re.h.k, .int .i64 h.re.h.r, .slice v.sea h.re.h.e.length v.sec, .slice v.ska h.re.ks.length v.skc, .slice v.ka l v.kc]] w fun e w' => e = .returned (.bool (mayT t)) ∧ Below w.heap.size w w' := by
 have hmf := may_flat hw
 have hfl := flatT_len t
 have hsf := fun (j : Nat) (hj : j < (flatT t).length) => small_flat hc hj
 have HT := Lib.hid hT; have HWT := Lib.hid hw; have HMF := Lib.hid hmf; have HSF := Lib.hid hsf
 clear hT hw hmf hsf hc
 go_enter Tryz.func11, Tryz.ntmps11
 go_upto_region 1 with (fail)
 obtain ⟨W0, hW0⟩ : ∃ W0, W0 = w.alloc (.cells #[.int .u8 h.h.k, .int .u8 h.h.op, .int .i64 h.h.pl, .int .i64 h.h.n, .string h.h.name, .string h.h.arg, .string h.h.exn, .int .i64 h.rho, .slice v.ra h.rhos.length v.rc, .slice v.ea h.e.length v.ec, .int .u8 h.ty.h.k, .int .i64 h.ty.h.r, .slice v.tea h.ty.h.e.length v.tec, .slice v.tka h.ty.ks.length v.tkc, .int .u8 h.re.h.k, .int .i64 h.re.h.r, .slice v.sea h.re.h.e.length v.sec, .slice v.ska h.re.ks.length v.skc, .slice v.ka l v.kc] 31) := ⟨_, rfl⟩
 have hbx : Box W0 w.heap.size h v l := by rw [hW0]; exact box_of (w := w) (h := h) (v := v) (l := l)
 have hb0 : Below w.heap.size w W0 := by rw [hW0]; exact box_new _
 rw [← hW0]
 clear hW0
 generalize hN0 : w.heap.size = N0 at hbx ⊢
 have HB0 := Lib.hid hb0; have HBX := Lib.hid hbx; have HRG := Lib.hid hbx.range
 obtain ⟨b0, b1, b2, b3, b4, b5, b6, b7, b8, b9, b10, b11, b12, b13, b14, b15, b16, b17, b18⟩ := hbx
 clear hb0 hN0 b0 b1 b2 b3 b4 b5 b6 b7 b8 b9 b10 b11 b12 b13 b14 b15 b16 b17 b18
 go_wp2_with (refine at_load rfl _ rfl N0 0 rfl HRG.out ?_)
 refine (refAll_walk (wt t) t h v l w W0 (Nat.le_refl _) (by have := HWT.out; omega) HT.out HB0.out).mono ?_
 rintro e w2 ⟨g, c2, xs, rfl, hown2, hfl2, hb2⟩
 have hall : AllAt w w2 g c2 (flatT t) := ⟨_, xs, by rw [hfl]; exact hown2, hfl2⟩
 have HB2 := Lib.hid (below_then HB0.out hb2 HB0.out.size); have HALL := Lib.hid hall
 clear hown2 hfl2 hb2 hall
 generalize hF : flatT t = F at *
 obtain ⟨n, hn⟩ : ∃ n, n = wt t := ⟨_, rfl⟩
 rw [← hn] at hfl ⊢
 have hn4 : (n : Int) ≤ 40000 := by have := HWT.out; omega
 have g4 : decide ((40000 : Int) < (n : Int)) = false := decide_eq_false (by omega)
 have HFL := Lib.hid hfl
 clear hfl hn hF
 go_wp2_with (fail)
 go_loopw [4, 12] (fun _ i wr => ∃ j : Nat, j ≤ n ∧ i = .int .i64 j ∧ Hid (Below w.heap.size w wr) ∧ Hid (AllAt w wr g c2 F) ∧ Hid (∀ i, i < j → nodeB (tget F i).h (tget F i).ks.length = true)) (fun _ i _ => n - (intOf i).toNat)
 case atStart => exact ⟨0, Nat.zero_le _, rfl, HB2, HALL, Lib.hid (fun i hi => by omega)⟩
 case round =>
  obtain ⟨j, hj, rfl, HB, HA, HE⟩ := hrel
  by_cases hlt : j < n
  ·have hjf : j < F.length := by rw [HFL.out]; exact hlt
   obtain ⟨v', hat, hrg⟩ := HA.out.get j hjf
   have hsm := HSF.out j hjf
   have hnode := refNodeA_walk (tget F j) _ v' _ wr (hat.below HB.out) hsm
   have hno : nodeB (tget F j).h (tget F j).ks.length = false → mayT t = false := fun hh => by
    rw [HMF.out, decide_eq_false_iff_not]
    intro ha
    have := ha j hjf
    rw [hh] at this; cases this
   have hyes : nodeB (tget F j).h (tget F j).ks.length = true → ∀ i, i < j + 1 → nodeB (tget F i).h (tget F i).ks.length = true := fun hh i hi => by
    rcases Nat.lt_or_ge i j with h1 | h1
    ·exact HE.out i h1
    ·rw [show i = j by omega]; exact hh
   have HNODE := Lib.hid hnode; have HRJ := Lib.hid hrg; have HNO := Lib.hid hno; have HYES := Lib.hid hyes
   clear hnode hrg hno hyes hat hsm hjf
   have j0 : (0 : Int) ≤ (j : Int) := by omega
   have j1 : (j : Int) < (n : Int) := by omega
   go_wp2_with (refine at_load rfl _ rfl g (j * 19) rfl HRJ.out ?_)
   refine HNODE.out.mono ?_
   rintro e w3 ⟨rfl, hb3⟩
   have HB3 := Lib.hid (below_then HB.out hb3 HB.out.size); have HA3 := Lib.hid (HA.out.below hb3)
   clear hb3 HNODE
   generalize nodeB (tget F j).h (tget F j).ks.length = X at *
   cases X
   ·have HR := Lib.hid (HNO.out rfl)
    go_wp2_with (fail)
    go_ret
    exact ⟨ret_bool HR.out.symm, HB3.out⟩
   ·have HR := Lib.hid (HYES.out rfl)
    go_wp2_with (fail)
    go_roundw
    case rel => exact ⟨j + 1, by omega, by go_num, HB3, HA3, HR⟩
    case measure => simp [intOf]; omega
  ·obtain rfl : j = n := by omega
   have HR := Lib.hid (show mayT t = true by
    rw [HMF.out]
    exact decide_eq_true (fun i hi => HE.out i (by rw [HFL.out] at hi; exact hi)))
   go_wp2_with (fail)
   go_ret
   exact ⟨ret_bool HR.out.symm, HB.out⟩
end Aterm
end Go.Proofs.YtfncpcijfphngaaGreatDoor
namespace Go.Proofs.YtfncpcijfphngaaGreatDoor
open Go.RowKit
set_option linter.unusedVariables false
set_option linter.unusedSimpArgs false
namespace Disp
open Effect (At AtOk AtsAt Rd RdI ofA ret_i64 ret_bool lt_of_block heap_alloc_new own_slice digs NumLaid textE)
open Aterm (AT Hd V AtIs HdIs acells tget wt wts nodeB allT allK smallB Box box_of at_load at_load_g exec_at range_below of_world atInfo greatT small_of great_walk refMayA_walk row_new mayT)
open Rt (box_new below_then kw wAt wBang)
open Types (jb bl bl_inj bl_append bl_app bl_cons bl_one jb_one wInt wOpen wShut wStar wRef wArrow)

theorem str_self (s : ByteArray) : (s.toList == s.toList) = true := by simp
set_option maxRecDepth 100000 in
set_option maxHeartbeats 12800000 in
theorem isLaw_walk (h : Hd) (v : V) (l : Nat) (t : AT) (w : World) (hT : AtIs w h v l t) (hla : Laid w) (hfl : FldLaid w) :
  Calls Tryz.prog 3 #[.agg #[.int .u8 h.h.k, .int .u8 h.h.op, .int .i64 h.h.pl, .int .i64 h.h.n, .string h.h.name, .string h.h.arg, .string h.h.exn, .int .i64 h.rho, .slice v.ra h.rhos.length v.rc, .slice v.ea h.e.length v.ec, .int .u8 h.ty.h.k, .int .i64 h.ty.h.r, .slice v.tea h.ty.h.e.length v.tec, .slice v.tka h.ty.ks.length v.tkc, .int .u8 h.re.h.k, .int .i64 h.re.h.r, .slice v.sea h.re.h.e.length v.sec, .slice v.ska h.re.ks.length v.skc, .slice v.ka l v.kc]] w fun e w' => e = .returned (.bool true) ∧ Below w.heap.size w w' := by
 have haw := fun (W : World) (hb : Below w.heap.size w W) => awake_walk W (hla.below hb)
 have hg1 := fun (W : World) (hb : Below w.heap.size w W) => great_walk t h v l W (hT.below hb)
 have HAW := Lib.hid haw; have HG1 := Lib.hid hg1; have HT := Lib.hid hT; have HLA := Lib.hid hla; have HFL := Lib.hid hfl
 clear haw hg1 hT hla hfl
 go_enter Tryz.func3, Tryz.ntmps3
 go_upto_region 1 with (fail)
 refine of_world (F := fun V => Below w.heap.size w V ∧ V.rangeAt w.heap.size 0 (acells h v l)) ⟨box_new _, row_new rfl⟩ ?_
 rintro W0 ⟨hb0, hr0⟩
 generalize hN1 : w.heap.size = N1 at hr0 ⊢
 have HN1 := Lib.hid hN1
 have HC0 := Lib.hid hb0; have HR0 := Lib.hid hr0
 clear hb0 hr0 hN1
 go_wp2_with (refine at_load rfl _ rfl N1 0 rfl HR0.out ?_)
 refine (HG1.out W0 HC0.out).mono ?_
 rintro e w1 ⟨rfl, hb1⟩
 have HC1 := Lib.hid (below_then HC0.out hb1 HC0.out.size); have HR1 := Lib.hid (range_below HR0.out hb1)
 clear hb1 HC0 HR0
 clear W0
 cases hq1 : greatT t
 case true =>
  go_wp2_with (fail)
  refine (HAW.out w1 HC1.out).mono ?_
  rintro e w2 ⟨rfl, hb2⟩
  have HC2 := Lib.hid (below_then HC1.out hb2 HC1.out.size)
  clear hb2
  go_wp2_with (fail)
  go_ret
  exact ⟨rfl, HC2.out⟩
 have hs1 := small_of hq1
 clear hq1
 have hp := fun (W : World) (hb : Below w.heap.size w W) => text_walk t h v l W (HT.out.below hb) (by omega) hs1.2 (HLA.out.below hb).kw (HLA.out.below hb).num (HLA.out.below hb).sg
 have hd := fun (W : World) (hb : Below w.heap.size w W) => refMayA_walk t h v l W (HT.out.below hb) (by omega) hs1.2
 have hme := may_small (t := t) (by omega)
 have HP := Lib.hid hp; have HD := Lib.hid hd
 have hct := fun (W : World) (hb : Below w.heap.size w W) => count_walk t h v l [wOpen] (some ⟨W.heap.size, 0, none⟩) 1 1 (W.alloc (.cells #[.string ⟨#[40]⟩] 9)) ((HT.out.below hb).below (box_new _)) (by omega) hs1.2 (Src.new W [wOpen] _ _) (by omega) ⟨Nat.le_refl _, by unfold maxLen; omega⟩ (fun x hx => by rw [List.mem_singleton] at hx; subst hx; decide) ((HLA.out.below hb).below (box_new _)) ((HFL.out.below hb).below (box_new _))
 have htx := fun (W : World) (hb : Below w.heap.size w W) (hm : allT nodeB t = true) => refText_walk t h v l w W (by omega) hm hs1.2 HT.out hb
 have HCT := Lib.hid hct; have HTX := Lib.hid htx; have HME := Lib.hid hme
 clear hp hd hs1 hct htx hme
 go_wp2_with (refine at_load rfl _ rfl N1 0 rfl HR1.out ?_)
 refine (HP.out w1 HC1.out).mono ?_
 rintro e w2 ⟨rfl, hb2⟩
 have HC2 := Lib.hid (below_then HC1.out hb2 HC1.out.size); have HR2 := Lib.hid (range_below HR1.out hb2)
 clear hb2
 go_wp2_with (refine at_load rfl _ rfl N1 0 rfl HR2.out ?_)
 refine (HD.out w2 HC2.out).mono ?_
 rintro e w3 ⟨rfl, hb3⟩
 have HC3 := Lib.hid (below_then HC2.out hb3 HC2.out.size); have HR3 := Lib.hid (range_below HR2.out hb3)
 clear hb3
 rw [HME.out]
 cases hm : allT nodeB t
 ·obtain ⟨e1, e2⟩ := text_no hm
  have hw0 : wordsOf t = [] := by unfold wordsOf; rw [hm]; rfl
  rw [e1, e2]
  have HW0 := Lib.hid hw0
  clear e1 e2 hw0 hm
  go_wp2_with (first | refine at_load rfl _ rfl N1 0 rfl HR3.out ?_ | refine at_load_g (by rfl) _ rfl N1 0 rfl HR3.out ?_)
  refine (HCT.out w3 HC3.out).mono ?_
  rintro e w4 ⟨rfl, hb4⟩
  have HC4 := Lib.hid (below_then (below_then HC3.out (box_new _) HC3.out.size) hb4 (Nat.le_trans HC3.out.size (by simp)))
  clear hb4
  rw [HW0.out, cntIn_nil]
  go_wp2_with (fail)
  refine (HAW.out w4 HC4.out).mono ?_
  rintro e w5 ⟨rfl, hb5⟩
  have HC5 := Lib.hid (below_then HC4.out hb5 HC4.out.size)
  clear hb5
  go_wp2_with (fail)
  go_ret
  exact ⟨rfl, HC5.out⟩
 ·obtain ⟨e1, e2⟩ := text_yes hm
  rw [e1, e2]
  have HM := Lib.hid hm
  clear e1 e2 hm
  have hss := str_self (jb (partsT t))
  go_wp2_with (first | refine at_load rfl _ rfl N1 0 rfl HR3.out ?_ | refine at_load_g (by rfl) _ rfl N1 0 rfl HR3.out ?_)
  refine (HTX.out w3 HC3.out HM.out).mono ?_
  rintro e w4 ⟨rfl, hb4⟩
  have HC4 := Lib.hid (below_then HC3.out hb4 HC3.out.size)
  clear hb4
  generalize jb (partsT t) = J at *
  go_wp2_with (fail)
  refine (HAW.out w4 HC4.out).mono ?_
  rintro e w5 ⟨rfl, hb5⟩
  have HC5 := Lib.hid (below_then HC4.out hb5 HC4.out.size)
  clear hb5
  go_wp2_with (fail)
  go_ret
  exact ⟨rfl, HC5.out⟩
end Disp
end Go.Proofs.YtfncpcijfphngaaGreatDoor
