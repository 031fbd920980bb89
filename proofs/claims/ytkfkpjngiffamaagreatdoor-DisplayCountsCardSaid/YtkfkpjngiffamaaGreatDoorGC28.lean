import Derived.Test.YtkfkpjngiffamaaGreatDoorGC15
import Derived.Test.YtkfkpjngiffamaaGreatDoorGC09
import Derived.Test.YtkfkpjngiffamaaGreatDoorGC27
import Derived.Test.YtkfkpjngiffamaaGreatDoorGC08
import Derived.Deep.RegionHeld3
import Derived.Test.YtkfkpjngiffamaaGreatDoorGC03
import Derived.Test.YtkfkpjngiffamaaGreatDoorGC21
import Derived.Test.YtkfkpjngiffamaaGreatDoorGC22
import Derived.Test.YtkfkpjngiffamaaGreatDoorGC23
import Derived.Test.YtkfkpjngiffamaaGreatDoorGC26
import Derived.Deep.DeepCutAuto

namespace Go.Proofs.YtkfkpjngiffamaaGreatDoor
open Go.RowKit
set_option linter.unusedVariables false
set_option linter.unusedSimpArgs false
namespace Aterm
open Effect (RdI nget nget_at nget_mem Ixs intsV own_slice)
open Rt (box_new box_at below_then)

structure AllAt (w0 W : World) (g c : Nat) (F : List AT) : Prop where
 own : ∃ B xs, W.ownsRow B 31 19 (.slice (some ⟨g, 0, none⟩) F.length c) F.length xs ∧ Flat w0 xs F
theorem AllAt.below {w0 W W' : World} {g c : Nat} {F : List AT} (h : AllAt w0 W g c F) (hb : Below W.heap.size W W') : AllAt w0 W' g c F := by
 obtain ⟨B, xs, h1, h2⟩ := h.own
 exact ⟨B, xs, own_below h1 hb, h2⟩
theorem ixs_ne {B m g : Nat} {W : World} {v : Value} {l : List Int} (h : Ixs B W v m l) {cur : Array Value} {fr : Nat × Nat} (hg : W.heap[g]? = some (.cells cur 31 fr)) : some g ≠ v.ownBlock := by
 intro e
 rcases h.2 with ⟨rfl, _⟩ | ⟨k, cap, cur', rfl, _, hk, _⟩
 ·simp [Value.ownBlock] at e
 ·simp [Value.ownBlock] at e
  subst e
  rw [hg] at hk
  injection hk with hk
  injection hk with _ hk _
  exact absurd hk (by decide)
theorem AllAt.grown {w0 W W' : World} {g c B m : Nat} {F : List AT} {v : Value} {l : List Int} (h : AllAt w0 W g c F) (hi : Ixs B W v m l) (hg : W.grownBy W' v.ownBlock) : AllAt w0 W' g c F := by
 obtain ⟨B', xs, h1, h2⟩ := h.own
 refine ⟨B', xs, h1.kept hg ?_, h2⟩
 rcases h1.2 with ⟨e, _⟩ | ⟨k, cap, cur, e, _, hk, _⟩
 ·cases e
 ·injection e with e
  injection e with e
  injection e with e
  subst e
  exact .inr (ixs_ne hi hk)
theorem AllAt.get {w0 W : World} {g c : Nat} {F : List AT} (h : AllAt w0 W g c F) (j : Nat) (hj : j < F.length) :
  ∃ v, AtIs w0 (tget F j).h v (tget F j).ks.length (tget F j) ∧ W.rangeAt g (j * 19) (acells (tget F j).h v (tget F j).ks.length) := by
 obtain ⟨B, xs, h1, h2⟩ := h.own
 obtain ⟨v, h3, h4⟩ := h2.get j hj
 refine ⟨v, h3, fun i x hx => ?_⟩
 have := h1.cells (g := g) rfl _ _ (h4 i x hx)
 rw [Addr.add_lit, Nat.zero_add] at this
 exact this
theorem own_lower {W : World} {B B' e s n : Nat} {v : Value} {xs : List Value} (h : W.ownsRow B e s v n xs) (hB : B' ≤ B) : W.ownsRow B' e s v n xs :=
 ⟨h.1, h.2.imp id (fun ⟨g, cap, cur, a, b, r⟩ => ⟨g, cap, cur, a, by omega, r⟩)⟩

end Aterm
end Go.Proofs.YtkfkpjngiffamaaGreatDoor
namespace Go.Proofs.YtkfkpjngiffamaaGreatDoor
open Go.RowKit
set_option linter.unusedVariables false
set_option linter.unusedSimpArgs false
namespace Aterm
open Effect (RdI nget nget_at nget_mem ret_bool ret_i64 lt_of_block heap_alloc_new ofA)
open Rt (box_new box_at below_then)

theorem may_flat {t : AT} (hw : wt t ≤ 40000) : mayT t = decide (∀ j, j < (flatT t).length → nodeB (tget (flatT t) j).h (tget (flatT t) j).ks.length = true) := by
 unfold mayT
 rw [decide_eq_true hw, Bool.true_and, allT_flat, Bool.eq_iff_iff, List.all_eq_true, decide_eq_true_eq]
 constructor
 ·intro h j hj; exact h _ (tget_mem hj)
 ·intro h x hx
  obtain ⟨j, hj, rfl⟩ := List.getElem_of_mem hx
  have h1 := tget_at hj
  rw [List.getElem?_eq_getElem hj] at h1
  rw [Option.some.inj h1]; exact h j hj
theorem small_flat {t : AT} (hc : allT smallB t = true) {j : Nat} (hj : j < (flatT t).length) : smallB (tget (flatT t) j).h (tget (flatT t) j).ks.length = true := by
 rw [allT_flat, List.all_eq_true] at hc
 exact hc _ (tget_mem hj)
set_option maxRecDepth 100000 in
set_option maxHeartbeats 3200000 in
theorem refMayA_walk (t : AT) (h : Hd) (v : V) (l : Nat) (w : World) (hT : AtIs w h v l t) (hw : wt t ≤ 40000) (hc : allT smallB t = true) :
  Calls Tryz.prog 7 #[.agg #[.int .u8 h.h.k, .int .u8 h.h.op, .int .i64 h.h.pl, .int .i64 h.h.n, .string h.h.name, .string h.h.arg, .string h.h.exn, .int .i64 h.rho, .slice v.ra h.rhos.length v.rc, .slice v.ea h.e.length v.ec, .int .u8 h.ty.h.k, .int .i64 h.ty.h.r, .slice v.tea h.ty.h.e.length v.tec, .slice v.tka h.ty.ks.length v.tkc, .int .u8 h.re.h.k, .int .i64 h.re.h.r, .slice v.sea h.re.h.e.length v.sec, .slice v.ska h.re.ks.length v.skc, .slice v.ka l v.kc]] w fun e w' => e = .returned (.bool (mayT t)) ∧ Below w.heap.size w w' := by
 have hmf := may_flat hw
 have hfl := flatT_len t
 have hsf := fun (j : Nat) (hj : j < (flatT t).length) => small_flat hc hj
 have HT := Lib.hid hT; have HWT := Lib.hid hw; have HMF := Lib.hid hmf; have HSF := Lib.hid hsf
 clear hT hw hmf hsf hc
 go_enter Tryz.func7, Tryz.ntmps7
 go_upto_region 1 with (fail)
 obtain ⟨W0, hW0⟩ : ∃ W0, W0 = w.alloc (.cells #[.int .u8 h.h.k, .int .u8 h.h.op, .int .i64 h.h.pl, .int .i64 h.h.n, .string h.h.name, .string h.h.arg, .string h.h.exn, .int .i64 h.rho, .slice v.ra h.rhos.length v.rc, .slice v.ea h.e.length v.ec, .int .u8 h.ty.h.k, .int .i64 h.ty.h.r, .slice v.tea h.ty.h.e.length v.tec, .slice v.tka h.ty.ks.length v.tkc, .int .u8 h.re.h.k, .int .i64 h.re.h.r, .slice v.sea h.re.h.e.length v.sec, .slice v.ska h.re.ks.length v.skc, .slice v.ka l v.kc] 31) := ⟨_, rfl⟩
 have hbx : Box W0 w.heap.size h v l := by rw [hW0]; exact box_of (w := w) (h := h) (v := v) (l := l)
 have hb0 : Below w.heap.size w W0 := by rw [hW0]; exact box_new _
 rw [← hW0]
 clear hW0
 generalize hN0 : w.heap.size = N0 at hbx ⊢
 have HB0 := Lib.hid hb0; have HBX := Lib.hid hbx; have HRG := Lib.hid hbx.range
 obtain ⟨b0, b1, b2, b3, b4, b5, b6, b7, b8, b9, b10, b11, b12, b13, b14, b15, b16, b17, b18⟩ := hbx
 clear hb0 hN0 b0 b1 b2 b3 b4 b5 b6 b7 b8 b9 b10 b11 b12 b13 b14 b15 b16 b17 b18
 go_wp2_with (refine at_load rfl _ rfl N0 0 rfl HRG.out ?_)
 refine (refAll_walk (wt t) t h v l w W0 (Nat.le_refl _) (by have := HWT.out; omega) HT.out HB0.out).mono ?_
 rintro e w2 ⟨g, c2, xs, rfl, hown2, hfl2, hb2⟩
 have hall : AllAt w w2 g c2 (flatT t) := ⟨_, xs, by rw [hfl]; exact hown2, hfl2⟩
 have HB2 := Lib.hid (below_then HB0.out hb2 HB0.out.size); have HALL := Lib.hid hall
 clear hown2 hfl2 hb2 hall
 generalize hF : flatT t = F at *
 obtain ⟨n, hn⟩ : ∃ n, n = wt t := ⟨_, rfl⟩
 rw [← hn] at hfl ⊢
 have hn4 : (n : Int) ≤ 40000 := by have := HWT.out; omega
 have g4 : decide ((40000 : Int) < (n : Int)) = false := decide_eq_false (by omega)
 have HFL := Lib.hid hfl
 clear hfl hn hF
 go_wp2_with (fail)
 go_loopw [4, 12] (fun _ i wr => ∃ j : Nat, j ≤ n ∧ i = .int .i64 j ∧ Hid (Below w.heap.size w wr) ∧ Hid (AllAt w wr g c2 F) ∧ Hid (∀ i, i < j → nodeB (tget F i).h (tget F i).ks.length = true)) (fun _ i _ => n - (intOf i).toNat)
 case atStart => exact ⟨0, Nat.zero_le _, rfl, HB2, HALL, Lib.hid (fun i hi => by omega)⟩
 case round =>
  obtain ⟨j, hj, rfl, HB, HA, HE⟩ := hrel
  by_cases hlt : j < n
  ·have hjf : j < F.length := by rw [HFL.out]; exact hlt
   obtain ⟨v', hat, hrg⟩ := HA.out.get j hjf
   have hsm := HSF.out j hjf
   have hnode := refNodeA_walk (tget F j) _ v' _ wr (hat.below HB.out) hsm
   have hno : nodeB (tget F j).h (tget F j).ks.length = false → mayT t = false := fun hh => by
    rw [HMF.out, decide_eq_false_iff_not]
    intro ha
    have := ha j hjf
    rw [hh] at this; cases this
   have hyes : nodeB (tget F j).h (tget F j).ks.length = true → ∀ i, i < j + 1 → nodeB (tget F i).h (tget F i).ks.length = true := fun hh i hi => by
    rcases Nat.lt_or_ge i j with h1 | h1
    ·exact HE.out i h1
    ·rw [show i = j by omega]; exact hh
   have HNODE := Lib.hid hnode; have HRJ := Lib.hid hrg; have HNO := Lib.hid hno; have HYES := Lib.hid hyes
   clear hnode hrg hno hyes hat hsm hjf
   have j0 : (0 : Int) ≤ (j : Int) := by omega
   have j1 : (j : Int) < (n : Int) := by omega
   go_wp2_with (refine at_load rfl _ rfl g (j * 19) rfl HRJ.out ?_)
   refine HNODE.out.mono ?_
   rintro e w3 ⟨rfl, hb3⟩
   have HB3 := Lib.hid (below_then HB.out hb3 HB.out.size); have HA3 := Lib.hid (HA.out.below hb3)
   clear hb3 HNODE
   generalize nodeB (tget F j).h (tget F j).ks.length = X at *
   cases X
   ·have HR := Lib.hid (HNO.out rfl)
    go_wp2_with (fail)
    go_ret
    exact ⟨ret_bool HR.out.symm, HB3.out⟩
   ·have HR := Lib.hid (HYES.out rfl)
    go_wp2_with (fail)
    go_roundw
    case rel => exact ⟨j + 1, by omega, by go_num, HB3, HA3, HR⟩
    case measure => simp [intOf]; omega
  ·obtain rfl : j = n := by omega
   have HR := Lib.hid (show mayT t = true by
    rw [HMF.out]
    exact decide_eq_true (fun i hi => HE.out i (by rw [HFL.out] at hi; exact hi)))
   go_wp2_with (fail)
   go_ret
   exact ⟨ret_bool HR.out.symm, HB.out⟩
end Aterm
end Go.Proofs.YtkfkpjngiffamaaGreatDoor
namespace Go.Proofs.YtkfkpjngiffamaaGreatDoor
open Go.RowKit
open List (getElem_toArray getElem_cons_succ getElem_cons_zero setIfInBounds_toArray set_cons_zero set_cons_succ)
set_option linter.unusedVariables false
set_option linter.unusedSimpArgs false
namespace Disp
open Effect (At AtOk AtsAt Rd RdI ofA ret_i64 ret_bool lt_of_block heap_alloc_new own_slice digs NumLaid textE)
open Aterm (AT Hd V AtIs HdIs acells tget wt wts nodeB allT allK smallB Box box_of at_load at_load_g exec_at range_below of_world atInfo greatT small_of great_walk refMayA_walk row_new mayT)
open Rt (box_new below_then kw wAt wBang)
open Types (jb bl wInt wOpen wShut wStar wRef wArrow)

theorem cnt_in (x : ByteArray) (l : List ByteArray) : cntIn [x] l = cnt x l := by
 unfold cntIn cnt
 congr 1
 funext y
 simp [List.mem_singleton]
theorem cnt_none (l : List ByteArray) : cntIn [] l = 0 := by
 unfold cntIn
 rw [List.countP_eq_zero]
 intro a _ h
 have := of_decide_eq_true h
 cases this
theorem words_even {t : AT} (hm : allT nodeB t = true) : cntIn [wOpen] (wordsOf t) = cntIn [wShut] (wordsOf t) := by
 have e : wordsOf t = flatS (sx t) := by unfold wordsOf; rw [if_pos hm]
 have := cnt_flat (good_sx hm)
 rw [cnt_in, cnt_in, e, this.1, this.2]
theorem words_some {t : AT} (hm : allT nodeB t = true) : wordsOf t ≠ [] ∧ jb (partsT t) = jb (wordsOf t) := by
 have e : wordsOf t = flatS (sx t) := by unfold wordsOf; rw [if_pos hm]
 rw [e]
 exact ⟨flat_ne _, text_flat hm⟩
set_option maxRecDepth 100000 in
set_option maxHeartbeats 25600000 in
theorem countsLaw_walk (h : Hd) (v : V) (l : Nat) (t : AT) (p : Option Addr) (n c : Nat) (ws : List ByteArray) (w : World) (hT : AtIs w h v l t) (hS : Src w p n c ws) (hnc : n ≤ c ∧ c ≤ maxLen) (hla : Laid w) (hfl : FldLaid w) :
  Calls Tryz.prog 3 #[.agg #[.int .u8 h.h.k, .int .u8 h.h.op, .int .i64 h.h.pl, .int .i64 h.h.n, .string h.h.name, .string h.h.arg, .string h.h.exn, .int .i64 h.rho, .slice v.ra h.rhos.length v.rc, .slice v.ea h.e.length v.ec, .int .u8 h.ty.h.k, .int .i64 h.ty.h.r, .slice v.tea h.ty.h.e.length v.tec, .slice v.tka h.ty.ks.length v.tkc, .int .u8 h.re.h.k, .int .i64 h.re.h.r, .slice v.sea h.re.h.e.length v.sec, .slice v.ska h.re.ks.length v.skc, .slice v.ka l v.kc], .slice p n c] w fun e w' => e = .returned (.bool true) ∧ Below w.heap.size w w' := by
 have haw := fun (W : World) (hb : Below w.heap.size w W) => awake_walk W (hla.below hb)
 have hg1 := fun (W : World) (hb : Below w.heap.size w W) => great_walk t h v l W (hT.below hb)
 have hsr := fun (W : World) (hb : Below w.heap.size w W) (j : Nat) (hj : j < n) => src_get (hS.below hb) hj
 have hin := fun (W : World) (hb : Below w.heap.size w W) (hn : n ≤ 1000000) (x : ByteArray) => refIn_walk p n c ws x W (hS.below hb) hn hnc
 have hlen := hS.1
 have HAW := Lib.hid haw; have HG1 := Lib.hid hg1; have HT := Lib.hid hT; have HLA := Lib.hid hla; have HFL := Lib.hid hfl; have HSRC := Lib.hid hS; have HSR := Lib.hid hsr; have HIN := Lib.hid hin; have HLEN := Lib.hid hlen; have HNC := Lib.hid hnc
 have hcl : c ≤ 9223372036854775807 := hnc.2
 have hcq := hnc.1
 clear haw hg1 hT hla hfl hS hsr hin hlen hnc
 go_enter Tryz.func3, Tryz.ntmps3
 go_upto_region 1 with (fail)
 refine of_world (F := fun V => Below w.heap.size w V ∧ V.rangeAt w.heap.size 0 (acells h v l)) ⟨box_new _, row_new rfl⟩ ?_
 rintro W0 ⟨hb0, hr0⟩
 generalize hN1 : w.heap.size = N1 at hr0 ⊢
 have HN1 := Lib.hid hN1
 have HC0 := Lib.hid hb0; have HR0 := Lib.hid hr0
 clear hb0 hr0 hN1
 go_wp2_with (refine at_load rfl _ rfl N1 0 rfl HR0.out ?_)
 refine (HG1.out W0 HC0.out).mono ?_
 rintro e w1 ⟨rfl, hb1⟩
 have HC1 := Lib.hid (below_then HC0.out hb1 HC0.out.size); have HR1 := Lib.hid (range_below HR0.out hb1)
 clear hb1 HC0 HR0
 clear W0
 cases hq1 : greatT t
 case true =>
  go_wp2_with (fail)
  refine (HAW.out w1 HC1.out).mono ?_
  rintro e w2 ⟨rfl, hb2⟩
  have HC2 := Lib.hid (below_then HC1.out hb2 HC1.out.size)
  clear hb2
  go_wp2_with (fail)
  go_ret
  exact ⟨rfl, HC2.out⟩
 have hs1 := small_of hq1
 clear hq1
 have hd := fun (W : World) (hb : Below w.heap.size w W) => refMayA_walk t h v l W (HT.out.below hb) (by omega) hs1.2
 have hme := may_small (t := t) (by omega)
 have HD := Lib.hid hd; have HME := Lib.hid hme; have HS1 := Lib.hid hs1
 clear hd hme hs1
 go_wp2_with (first | refine at_load rfl _ rfl N1 0 rfl HR1.out ?_ | refine at_load_g (by rfl) _ rfl N1 0 rfl HR1.out ?_)
 refine (HD.out w1 HC1.out).mono ?_
 rintro e w3 ⟨rfl, hb3⟩
 have HC3 := Lib.hid (below_then HC1.out hb3 HC1.out.size); have HR3 := Lib.hid (range_below HR1.out hb3)
 clear hb3
 rw [HME.out]
 cases hm : allT nodeB t
 ·clear hm
  go_wp2_with (fail)
  refine (HAW.out w3 HC3.out).mono ?_
  rintro e w5 ⟨rfl, hb5⟩
  have HC5 := Lib.hid (below_then HC3.out hb5 HC3.out.size)
  clear hb5
  go_wp2_with (fail)
  go_ret
  exact ⟨rfl, HC5.out⟩
 by_cases h20 : 20 < n
 ·have g3 : decide ((20 : Int) < (n : Int)) = true := decide_eq_true (by omega)
  have g4 : (20 : Int) < (n : Int) := by omega
  clear hm
  go_wp2_with (fail)
  refine (HAW.out w3 HC3.out).mono ?_
  rintro e w5 ⟨rfl, hb5⟩
  have HC5 := Lib.hid (below_then HC3.out hb5 HC3.out.size)
  clear hb5
  go_wp2_with (fail)
  go_ret
  exact ⟨rfl, HC5.out⟩
 have hn20 : n ≤ 20 := by omega
 have g3 : decide ((20 : Int) < (n : Int)) = false := decide_eq_false (by omega)
 have g4 : ¬ (20 : Int) < (n : Int) := by omega
 clear h20
 obtain ⟨hwn, htf⟩ := words_some hm
 have hw5 : wt t ≤ 500 := by have := HS1.out.1; omega
 obtain ⟨hts, hwl⟩ := words_small HS1.out.2 (at_rng HT.out) hw5
 rw [words_text] at hts
 have htx := fun (W : World) (hb : Below w.heap.size w W) => refText_walk t h v l w W hw5 hm HS1.out.2 HT.out hb
 have hwd := fun (W : World) => refWords_walk (wordsOf t) words_seen hwn (by omega) W
 have hcw := fun (W : World) (hb : Below w.heap.size w W) (hz : ∀ x ∈ ws, x.size ≤ maxLen) => count_walk t h v l ws p n c W (HT.out.below hb) hw5 HS1.out.2 (HSRC.out.below hb) (by omega) HNC.out hz (HLA.out.below hb) (HFL.out.below hb)
 have hcn := fun (W : World) (hb : Below w.heap.size w W) => count_walk t h v l [] none 0 0 W (HT.out.below hb) hw5 HS1.out.2 (Src.none W) (by omega) ⟨Nat.le_refl _, Nat.zero_le _⟩ (fun x hx => by cases hx) (HLA.out.below hb) (HFL.out.below hb)
 have hco := fun (W : World) (hb : Below w.heap.size w W) (A : Nat) (hA : Src W (some ⟨A, 0, none⟩) 1 1 [wOpen]) => count_walk t h v l [wOpen] (some ⟨A, 0, none⟩) 1 1 W (HT.out.below hb) hw5 HS1.out.2 hA (by omega) ⟨Nat.le_refl _, by unfold maxLen; omega⟩ (fun x hx => by rw [List.mem_singleton] at hx; subst hx; decide) (HLA.out.below hb) (HFL.out.below hb)
 have hcs := fun (W : World) (hb : Below w.heap.size w W) (A : Nat) (hA : Src W (some ⟨A, 0, none⟩) 1 1 [wShut]) => count_walk t h v l [wShut] (some ⟨A, 0, none⟩) 1 1 W (HT.out.below hb) hw5 HS1.out.2 hA (by omega) ⟨Nat.le_refl _, by unfold maxLen; omega⟩ (fun x hx => by rw [List.mem_singleton] at hx; subst hx; decide) (HLA.out.below hb) (HFL.out.below hb)
 rw [cnt_none] at hcn
 rw [words_even hm] at hco
 rw [htf] at htx
 have HWL := Lib.hid hwl; have HTX := Lib.hid htx; have HWD := Lib.hid hwd; have HCW := Lib.hid hcw; have HCN := Lib.hid hcn; have HCO := Lib.hid hco; have HCS := Lib.hid hcs
 clear hwn htf hts hwl htx hwd hcw hcn hco hcs hm hw5
 generalize wordsOf t = L at *
 generalize ((cntIn [wShut] L : Nat) : Int) = m at *
 go_wp2_with (fail)
 go_loop [5] (fun i => ∃ k : Nat, k ≤ n ∧ i = .int .i64 k ∧ Hid (∀ j y, j < k → ws[j]? = some y → y.size ≤ 100)) (fun i => n - (intOf i).toNat)
 case atStart => exact ⟨0, by omega, rfl, Lib.hid (fun j y hj => by omega)⟩
 case round =>
  obtain ⟨k, hk, rfl, HA⟩ := hrel
  by_cases hlt : k < n
  ·obtain ⟨b, o, y, hp, hy, hc⟩ := HSR.out w3 HC3.out k hlt
   subst hp
   have HY := Lib.hid hy
   clear hy
   by_cases hyz : 100 < y.size
   ·have g5 : decide ((100 : Int) < (y.size : Int)) = true := decide_eq_true (by omega)
    have g6 : (100 : Int) < (y.size : Int) := by omega
    go_wp2_with (fail)
    refine (HAW.out w3 HC3.out).mono ?_
    rintro e w5 ⟨rfl, hb5⟩
    have HC5 := Lib.hid (below_then HC3.out hb5 HC3.out.size)
    clear hb5
    go_wp2_with (fail)
    go_ret
    exact ⟨rfl, HC5.out⟩
   ·have g5 : decide ((100 : Int) < (y.size : Int)) = false := decide_eq_false (by omega)
    have g6 : ¬ (100 : Int) < (y.size : Int) := by omega
    have HYZ := Lib.hid (show y.size ≤ 100 by omega)
    clear hyz
    go_wp2_with (fail)
    go_round
    case rel =>
     refine ⟨k + 1, by omega, by go_num, Lib.hid (fun j z hj hz => ?_)⟩
     by_cases hjk : j = k
     ·subst hjk; rw [HY.out] at hz; injection hz with hz; rw [← hz]; exact HYZ.out
     ·exact HA.out j z (by omega) hz
    case measure => simp [intOf]; omega
  ·obtain rfl : n = k := by omega
   have hsz : ∀ x ∈ ws, x.size ≤ maxLen := fun x hx => by
    obtain ⟨j, hj, e⟩ := List.getElem_of_mem hx
    have := HA.out j x (by rw [← HLEN.out]; exact hj) (by rw [List.getElem?_eq_getElem hj, e])
    unfold maxLen
    omega
   have HCV := Lib.hid (fun (W : World) (hb : Below w.heap.size w W) => HCW.out W hb hsz)
   clear HCW hsz HA hk hlt
   go_wp2_with (first | refine at_load rfl _ rfl N1 0 rfl HR3.out ?_ | refine at_load_g (by rfl) _ rfl N1 0 rfl HR3.out ?_)
   refine (HTX.out w3 HC3.out).mono ?_
   rintro e w4 ⟨rfl, hb4⟩
   have HC4 := Lib.hid (below_then HC3.out hb4 HC3.out.size); have HR4 := Lib.hid (range_below HR3.out hb4)
   clear hb4
   generalize jb L = J at *
   go_wp2_with (fail)
   refine (HWD.out w4).mono ?_
   rintro e w5 ⟨g, c5, rfl, hLc, hcm, hcells, hb5⟩
   have HC5 := Lib.hid (below_then HC4.out hb5 HC4.out.size); have HR5 := Lib.hid (range_below HR4.out hb5)
   have HCE := Lib.hid hcells
   have hL31 : (L.length : Int) ≤ 31500000 := by have := HWL.out; omega
   have hcm' : c5 ≤ 9223372036854775807 := hcm
   clear hb5 hcells hcm
   go_wp2_with (fail)
   go_loop [6, 8] (fun q i => ∃ k : Nat, k ≤ L.length ∧ i = .int .i64 k ∧ q = .int .i64 (cntIn ws (L.take k) : Nat)) (fun _ i => L.length - (intOf i).toNat)
   case atStart => exact ⟨0, Nat.zero_le _, rfl, by rw [List.take_zero, cntIn_nil]; rfl⟩
   case round =>
    obtain ⟨k, hk, rfl, rfl⟩ := hrel
    by_cases hlt : k < L.length
    ·have hx := List.getElem?_eq_getElem hlt
     have hc := HCE.out k _ hx
     have htk : cntIn ws (L.take (k + 1)) = cntIn ws (L.take k) + if L[k] ∈ ws then 1 else 0 := by rw [List.take_add_one, hx]; exact cntIn_snoc _ _ _
     have hle := cntIn_le ws (L.take k)
     rw [List.length_take] at hle
     generalize L[k] = x at *
     have hio := HIN.out w5 HC5.out (by omega) x
     have HTK := Lib.hid htk
     have hk0 : (cntIn ws (L.take k) : Int) ≤ 31500000 := by omega
     clear hx htk hle
     generalize cntIn ws (L.take k) = q at *
     by_cases hin : x ∈ ws
     ·rw [decide_eq_true hin] at hio
      have HI := Lib.hid hin; have HIO := Lib.hid hio
      clear hin hio
      go_wp2_with (fail)
      refine HIO.out.mono ?_
      rintro e w6 ⟨rfl, rfl⟩
      go_wp2_with (fail)
      go_round
      case rel => exact ⟨k + 1, by omega, by go_num, by rw [HTK.out, if_pos HI.out]; go_num⟩
      case measure => simp [intOf]; omega
     ·rw [decide_eq_false hin] at hio
      have HI := Lib.hid hin; have HIO := Lib.hid hio
      clear hin hio
      go_wp2_with (fail)
      refine HIO.out.mono ?_
      rintro e w6 ⟨rfl, rfl⟩
      go_wp2_with (fail)
      go_round
      case rel => exact ⟨k + 1, by omega, by go_num, by rw [HTK.out, if_neg HI.out, Nat.add_zero]⟩
      case measure => simp [intOf]; omega
    ·obtain rfl : L.length = k := by omega
     rw [List.take_length]
     generalize ((cntIn ws L : Nat) : Int) = q at *
     clear hlt hk
     go_upto_region 15 with (fail)
     refine wp_region_held_drew (S := fun (V : World) => Below w5.heap.size w5 V) (by kernel_rfl) ((Below.refl _ _).drew) (fun hHeld => ?_)
     have hini : Below w5.heap.size w5 w5.drew := (Below.refl _ _).drew
     generalize w5.drew = v0 at *
     have HS0 := Lib.hid hini
     clear hini
     refine tk (i := 0) (v := .agg #[.int .u8 h.h.k, .int .u8 h.h.op, .int .i64 h.h.pl, .int .i64 h.h.n, .string h.h.name, .string h.h.arg, .string h.h.exn, .int .i64 h.rho, .slice v.ra h.rhos.length v.rc, .slice v.ea h.e.length v.ec, .int .u8 h.ty.h.k, .int .i64 h.ty.h.r, .slice v.tea h.ty.h.e.length v.tec, .slice v.tka h.ty.ks.length v.tkc, .int .u8 h.re.h.k, .int .i64 h.re.h.r, .slice v.sea h.re.h.e.length v.sec, .slice v.ska h.re.ks.length v.skc, .slice v.ka l v.kc]) rfl (by kernel_rfl) (fun _ _ _ h => h) (by rfl) ?_ (by assumption) ?_
     ·intro w' hSw
      exact exec_at _ rfl N1 0 rfl (range_below HR5.out hSw)
     refine tk (i := 1) (v := .slice p n c) rfl (by kernel_rfl) (fun _ _ _ h => h) (by rfl) ?_ (by assumption) ?_
     ·intro w' hSw
      first | (go_simp; done) | rfl
     try simp only [Act.put, getElem_toArray, getElem_cons_succ, getElem_cons_zero, setIfInBounds_toArray, set_cons_zero, set_cons_succ]
     refine tk (i := 3) (v := .int .i64 q) rfl (by kernel_rfl) (fun _ _ _ h => h) (by rfl) ?_ (by assumption) ?_
     ·intro w' hSw
      first | (go_simp; done) | rfl
     try simp only [Act.put, getElem_toArray, getElem_cons_succ, getElem_cons_zero, setIfInBounds_toArray, set_cons_zero, set_cons_succ]
     refine wpAnyH_ready (rs := [2]) (by kernel_rfl) (by simp) ?_
     refine AllReadyH.cons rfl (fun K hK => ?_) AllReadyH.nil
     have HK2 := Lib.hid hK
     clear hK
     try rw [if_pos (by rfl)]
     go_simp
     refine (HCV.out _ (below_then HC5.out HS0.out HC5.out.size)).mono ?_
     rintro e va ⟨rfl, hbb⟩
     have HSa := Lib.hid (below_then HS0.out hbb HS0.out.size)
     clear hbb
     refine HK2.out _ _ HSa.out (fun hHeld => ?_)
     clear HK2
     try simp only [Act.put, getElem_toArray, getElem_cons_succ, getElem_cons_zero, setIfInBounds_toArray, set_cons_zero, set_cons_succ]
     clear K
     refine tk (i := 4) (v := .bool true) rfl (by kernel_rfl) (fun _ _ _ h => h) (by rfl) ?_ (by assumption) ?_
     ·intro w' hSw
      first | (go_simp; done) | rfl
     refine tk (i := 5) (v := .bool true) rfl (by kernel_rfl) (fun _ _ _ h => h) (by rfl) ?_ (by assumption) ?_
     ·intro w' hSw
      first | (go_simp; done) | rfl
     try simp only [Act.put, getElem_toArray, getElem_cons_succ, getElem_cons_zero, setIfInBounds_toArray, set_cons_zero, set_cons_succ]
     refine tk (i := 6) (v := .agg #[.int .u8 h.h.k, .int .u8 h.h.op, .int .i64 h.h.pl, .int .i64 h.h.n, .string h.h.name, .string h.h.arg, .string h.h.exn, .int .i64 h.rho, .slice v.ra h.rhos.length v.rc, .slice v.ea h.e.length v.ec, .int .u8 h.ty.h.k, .int .i64 h.ty.h.r, .slice v.tea h.ty.h.e.length v.tec, .slice v.tka h.ty.ks.length v.tkc, .int .u8 h.re.h.k, .int .i64 h.re.h.r, .slice v.sea h.re.h.e.length v.sec, .slice v.ska h.re.ks.length v.skc, .slice v.ka l v.kc]) rfl (by kernel_rfl) (fun _ _ _ h => h) (by rfl) ?_ (by assumption) ?_
     ·intro w' hSw
      exact exec_at _ rfl N1 0 rfl (range_below HR5.out hSw)
     try simp only [Act.put, getElem_toArray, getElem_cons_succ, getElem_cons_zero, setIfInBounds_toArray, set_cons_zero, set_cons_succ]
     refine wpAnyH_ready (rs := [7]) (by kernel_rfl) (by simp) ?_
     refine AllReadyH.cons rfl (fun K hK => ?_) AllReadyH.nil
     have HK2 := Lib.hid hK
     clear hK
     try rw [if_pos (by rfl)]
     go_simp
     refine (HCN.out _ (below_then HC5.out HSa.out HC5.out.size)).mono ?_
     rintro e vb ⟨rfl, hbb⟩
     have HSb := Lib.hid (below_then HSa.out hbb HSa.out.size)
     clear hbb
     refine HK2.out _ _ HSb.out (fun hHeld => ?_)
     clear HK2
     try simp only [Act.put, getElem_toArray, getElem_cons_succ, getElem_cons_zero, setIfInBounds_toArray, set_cons_zero, set_cons_succ]
     clear K
     refine tk (i := 8) (v := .bool true) rfl (by kernel_rfl) (fun _ _ _ h => h) (by rfl) ?_ (by assumption) ?_
     ·intro w' hSw
      first | (go_simp; done) | rfl
     refine tk (i := 9) (v := .bool true) rfl (by kernel_rfl) (fun _ _ _ h => h) (by rfl) ?_ (by assumption) ?_
     ·intro w' hSw
      first | (go_simp; done) | rfl
     try simp only [Act.put, getElem_toArray, getElem_cons_succ, getElem_cons_zero, setIfInBounds_toArray, set_cons_zero, set_cons_succ]
     refine tk (i := 10) (v := .bool true) rfl (by kernel_rfl) (fun _ _ _ h => h) (by rfl) ?_ (by assumption) ?_
     ·intro w' hSw
      first | (go_simp; done) | rfl
     refine tk (i := 11) (v := .agg #[.int .u8 h.h.k, .int .u8 h.h.op, .int .i64 h.h.pl, .int .i64 h.h.n, .string h.h.name, .string h.h.arg, .string h.h.exn, .int .i64 h.rho, .slice v.ra h.rhos.length v.rc, .slice v.ea h.e.length v.ec, .int .u8 h.ty.h.k, .int .i64 h.ty.h.r, .slice v.tea h.ty.h.e.length v.tec, .slice v.tka h.ty.ks.length v.tkc, .int .u8 h.re.h.k, .int .i64 h.re.h.r, .slice v.sea h.re.h.e.length v.sec, .slice v.ska h.re.ks.length v.skc, .slice v.ka l v.kc]) rfl (by kernel_rfl) (fun _ _ _ h => h) (by rfl) ?_ (by assumption) ?_
     ·intro w' hSw
      exact exec_at _ rfl N1 0 rfl (range_below HR5.out hSw)
     try simp only [Act.put, getElem_toArray, getElem_cons_succ, getElem_cons_zero, setIfInBounds_toArray, set_cons_zero, set_cons_succ]
     refine tk (i := 14) (v := .agg #[.int .u8 h.h.k, .int .u8 h.h.op, .int .i64 h.h.pl, .int .i64 h.h.n, .string h.h.name, .string h.h.arg, .string h.h.exn, .int .i64 h.rho, .slice v.ra h.rhos.length v.rc, .slice v.ea h.e.length v.ec, .int .u8 h.ty.h.k, .int .i64 h.ty.h.r, .slice v.tea h.ty.h.e.length v.tec, .slice v.tka h.ty.ks.length v.tkc, .int .u8 h.re.h.k, .int .i64 h.re.h.r, .slice v.sea h.re.h.e.length v.sec, .slice v.ska h.re.ks.length v.skc, .slice v.ka l v.kc]) rfl (by kernel_rfl) (fun _ _ _ h => h) (by rfl) ?_ (by assumption) ?_
     ·intro w' hSw
      exact exec_at _ rfl N1 0 rfl (range_below HR5.out hSw)
     try simp only [Act.put, getElem_toArray, getElem_cons_succ, getElem_cons_zero, setIfInBounds_toArray, set_cons_zero, set_cons_succ]
     refine wpAnyH_ready (rs := [12, 15]) (by kernel_rfl) (by simp) ?_
     refine AllReadyH.cons rfl (fun K hK => ?_) (AllReadyH.cons rfl (fun K hK => ?_) AllReadyH.nil)
     ·have HK2 := Lib.hid hK
      clear hK
      try rw [if_pos (by rfl)]
      go_simp
      have hal : Below vb.heap.size vb (vb.alloc (.cells #[.string ⟨#[40]⟩] 9)) := box_new _
      have hsr : Src (vb.alloc (.cells #[.string ⟨#[40]⟩] 9)) (some ⟨vb.heap.size, 0, none⟩) 1 1 [wOpen] := Src.new vb [wOpen] _ _
      have hsn := below_then HSb.out hal HSb.out.size
      clear hal
      generalize vb.alloc (.cells #[.string ⟨#[40]⟩] 9) = x1 at hsr hsn ⊢
      generalize vb.heap.size = g1 at hsr ⊢
      have HS1 := Lib.hid hsn; have HX1 := Lib.hid hsr
      clear hsn hsr 
      refine HK2.out _ _ HS1.out (fun hHeld => ?_)
      clear HK2
      try simp only [Act.put, getElem_toArray, getElem_cons_succ, getElem_cons_zero, setIfInBounds_toArray, set_cons_zero, set_cons_succ]
      clear K
      refine wpAnyH_ready (rs := [13, 15]) (by kernel_rfl) (by simp) ?_
      refine AllReadyH.cons rfl (fun K hK => ?_) (AllReadyH.cons rfl (fun K hK => ?_) AllReadyH.nil)
      ·have HK2 := Lib.hid hK
       clear hK
       try rw [if_pos (by rfl)]
       go_simp
       refine (HCO.out _ (below_then HC5.out HS1.out HC5.out.size) _ HX1.out).mono ?_
       rintro e v2 ⟨rfl, hbb⟩
       have HS2 := Lib.hid (below_then HS1.out hbb HS1.out.size)
       clear hbb
       refine HK2.out _ _ HS2.out (fun hHeld => ?_)
       clear HK2
       try simp only [Act.put, getElem_toArray, getElem_cons_succ, getElem_cons_zero, setIfInBounds_toArray, set_cons_zero, set_cons_succ]
       clear K
       refine wpAnyH_ready (rs := [15]) (by kernel_rfl) (by simp) ?_
       refine AllReadyH.cons rfl (fun K hK => ?_) AllReadyH.nil
       have HK2 := Lib.hid hK
       clear hK
       try rw [if_pos (by rfl)]
       go_simp
       have hal : Below v2.heap.size v2 (v2.alloc (.cells #[.string ⟨#[41]⟩] 9)) := box_new _
       have hsr : Src (v2.alloc (.cells #[.string ⟨#[41]⟩] 9)) (some ⟨v2.heap.size, 0, none⟩) 1 1 [wShut] := Src.new v2 [wShut] _ _
       have hsn := below_then HS2.out hal HS2.out.size
       clear hal
       generalize v2.alloc (.cells #[.string ⟨#[41]⟩] 9) = x3 at hsr hsn ⊢
       generalize v2.heap.size = g3 at hsr ⊢
       have HS3 := Lib.hid hsn; have HX3 := Lib.hid hsr
       clear hsn hsr 
       refine HK2.out _ _ HS3.out (fun hHeld => ?_)
       clear HK2
       try simp only [Act.put, getElem_toArray, getElem_cons_succ, getElem_cons_zero, setIfInBounds_toArray, set_cons_zero, set_cons_succ]
       clear K
       refine wpAnyH_ready (rs := [16]) (by kernel_rfl) (by simp) ?_
       refine AllReadyH.cons rfl (fun K hK => ?_) AllReadyH.nil
       have HK2 := Lib.hid hK
       clear hK
       try rw [if_pos (by rfl)]
       go_simp
       refine (HCS.out _ (below_then HC5.out HS3.out HC5.out.size) _ HX3.out).mono ?_
       rintro e v4 ⟨rfl, hbb⟩
       have HS4 := Lib.hid (below_then HS3.out hbb HS3.out.size)
       clear hbb
       refine HK2.out _ _ HS4.out (fun hHeld => ?_)
       clear HK2
       try simp only [Act.put, getElem_toArray, getElem_cons_succ, getElem_cons_zero, setIfInBounds_toArray, set_cons_zero, set_cons_succ]
       clear K
       refine tk (i := 17) (v := .bool true) rfl (by kernel_rfl) (fun _ _ _ h => h) (by rfl) ?_ (by assumption) ?_
       ·intro w' hSw
        first | (go_simp; done) | rfl
       try simp only [Act.put, getElem_toArray, getElem_cons_succ, getElem_cons_zero, setIfInBounds_toArray, set_cons_zero, set_cons_succ]
       refine tk (i := 18) (v := .bool true) rfl (by kernel_rfl) (fun _ _ _ h => h) (by rfl) ?_ (by assumption) ?_
       ·intro w' hSw
        first | (go_simp; done) | rfl
       refine tk (i := 19) (v := .bool true) rfl (by kernel_rfl) (fun _ _ _ h => h) (by rfl) ?_ (by assumption) ?_
       ·intro w' hSw
        first | (go_simp; done) | rfl
       try simp only [Act.put, getElem_toArray, getElem_cons_succ, getElem_cons_zero, setIfInBounds_toArray, set_cons_zero, set_cons_succ]
       refine wpAnyH_ready (rs := [20]) (by kernel_rfl) (by simp) ?_
       refine AllReadyH.cons rfl (fun K hK => ?_) AllReadyH.nil
       have HK2 := Lib.hid hK
       clear hK
       try rw [if_pos (by rfl)]
       go_simp
       refine (HAW.out _ (below_then HC5.out HS4.out HC5.out.size)).mono ?_
       rintro e v5 ⟨rfl, hbb⟩
       have HS5 := Lib.hid (below_then HS4.out hbb HS4.out.size)
       clear hbb
       refine HK2.out _ _ HS5.out (fun hHeld => ?_)
       clear HK2
       try simp only [Act.put, getElem_toArray, getElem_cons_succ, getElem_cons_zero, setIfInBounds_toArray, set_cons_zero, set_cons_succ]
       clear K
       refine tk (i := 21) (v := .bool true) rfl (by kernel_rfl) (fun _ _ _ h => h) (by rfl) ?_ (by assumption) ?_
       ·intro w' hSw
        first | (go_simp; done) | rfl
       try simp only [Act.put, getElem_toArray, getElem_cons_succ, getElem_cons_zero, setIfInBounds_toArray, set_cons_zero, set_cons_succ]
       refine wpAnyH_ready (rs := [22]) (by kernel_rfl) (by simp) ?_
       refine AllReadyH.cons rfl (fun K hK => ?_) AllReadyH.nil
       have HK2 := Lib.hid hK
       clear hK
       try rw [if_pos (by rfl)]
       go_simp
       refine HK2.out _ _ HS5.out (fun hHeld => ?_)
       clear HK2
       try simp only [Act.put, getElem_toArray, getElem_cons_succ, getElem_cons_zero, setIfInBounds_toArray, set_cons_zero, set_cons_succ]
       clear K
       refine wpAnyH_done (by kernel_rfl) ?_ _
       clear hHeld
       go_wp2_with (fail)
       go_ret
       exact ⟨rfl, below_then HC5.out HS5.out HC5.out.size⟩
      ·have HK2 := Lib.hid hK
       clear hK
       try rw [if_pos (by rfl)]
       go_simp
       have hal : Below x1.heap.size x1 (x1.alloc (.cells #[.string ⟨#[41]⟩] 9)) := box_new _
       have hsr : Src (x1.alloc (.cells #[.string ⟨#[41]⟩] 9)) (some ⟨x1.heap.size, 0, none⟩) 1 1 [wShut] := Src.new x1 [wShut] _ _
       have hsn := below_then HS1.out hal HS1.out.size
       have hoth := HX1.out.below hal
       clear hal
       generalize x1.alloc (.cells #[.string ⟨#[41]⟩] 9) = x6 at hsr hsn hoth ⊢
       generalize x1.heap.size = g6 at hsr ⊢
       have HS6 := Lib.hid hsn; have HX6 := Lib.hid hsr; have HO6 := Lib.hid hoth
       clear hsn hsr hoth
       refine HK2.out _ _ HS6.out (fun hHeld => ?_)
       clear HK2
       try simp only [Act.put, getElem_toArray, getElem_cons_succ, getElem_cons_zero, setIfInBounds_toArray, set_cons_zero, set_cons_succ]
       clear K
       refine wpAnyH_ready (rs := [13]) (by kernel_rfl) (by simp) ?_
       refine AllReadyH.cons rfl (fun K hK => ?_) AllReadyH.nil
       have HK2 := Lib.hid hK
       clear hK
       try rw [if_pos (by rfl)]
       go_simp
       refine (HCO.out _ (below_then HC5.out HS6.out HC5.out.size) _ HO6.out).mono ?_
       rintro e v7 ⟨rfl, hbb⟩
       have HS7 := Lib.hid (below_then HS6.out hbb HS6.out.size)
       have HO7 := Lib.hid (HX6.out.below hbb)
       clear hbb
       refine HK2.out _ _ HS7.out (fun hHeld => ?_)
       clear HK2
       try simp only [Act.put, getElem_toArray, getElem_cons_succ, getElem_cons_zero, setIfInBounds_toArray, set_cons_zero, set_cons_succ]
       clear K
       refine wpAnyH_ready (rs := [16]) (by kernel_rfl) (by simp) ?_
       refine AllReadyH.cons rfl (fun K hK => ?_) AllReadyH.nil
       have HK2 := Lib.hid hK
       clear hK
       try rw [if_pos (by rfl)]
       go_simp
       refine (HCS.out _ (below_then HC5.out HS7.out HC5.out.size) _ HO7.out).mono ?_
       rintro e v8 ⟨rfl, hbb⟩
       have HS8 := Lib.hid (below_then HS7.out hbb HS7.out.size)
       clear hbb
       refine HK2.out _ _ HS8.out (fun hHeld => ?_)
       clear HK2
       try simp only [Act.put, getElem_toArray, getElem_cons_succ, getElem_cons_zero, setIfInBounds_toArray, set_cons_zero, set_cons_succ]
       clear K
       refine tk (i := 17) (v := .bool true) rfl (by kernel_rfl) (fun _ _ _ h => h) (by rfl) ?_ (by assumption) ?_
       ·intro w' hSw
        first | (go_simp; done) | rfl
       refine tk (i := 18) (v := .bool true) rfl (by kernel_rfl) (fun _ _ _ h => h) (by rfl) ?_ (by assumption) ?_
       ·intro w' hSw
        first | (go_simp; done) | rfl
       try simp only [Act.put, getElem_toArray, getElem_cons_succ, getElem_cons_zero, setIfInBounds_toArray, set_cons_zero, set_cons_succ]
       refine tk (i := 19) (v := .bool true) rfl (by kernel_rfl) (fun _ _ _ h => h) (by rfl) ?_ (by assumption) ?_
       ·intro w' hSw
        first | (go_simp; done) | rfl
       try simp only [Act.put, getElem_toArray, getElem_cons_succ, getElem_cons_zero, setIfInBounds_toArray, set_cons_zero, set_cons_succ]
       refine wpAnyH_ready (rs := [20]) (by kernel_rfl) (by simp) ?_
       refine AllReadyH.cons rfl (fun K hK => ?_) AllReadyH.nil
       have HK2 := Lib.hid hK
       clear hK
       try rw [if_pos (by rfl)]
       go_simp
       refine (HAW.out _ (below_then HC5.out HS8.out HC5.out.size)).mono ?_
       rintro e v9 ⟨rfl, hbb⟩
       have HS9 := Lib.hid (below_then HS8.out hbb HS8.out.size)
       clear hbb
       refine HK2.out _ _ HS9.out (fun hHeld => ?_)
       clear HK2
       try simp only [Act.put, getElem_toArray, getElem_cons_succ, getElem_cons_zero, setIfInBounds_toArray, set_cons_zero, set_cons_succ]
       clear K
       refine tk (i := 21) (v := .bool true) rfl (by kernel_rfl) (fun _ _ _ h => h) (by rfl) ?_ (by assumption) ?_
       ·intro w' hSw
        first | (go_simp; done) | rfl
       try simp only [Act.put, getElem_toArray, getElem_cons_succ, getElem_cons_zero, setIfInBounds_toArray, set_cons_zero, set_cons_succ]
       refine wpAnyH_ready (rs := [22]) (by kernel_rfl) (by simp) ?_
       refine AllReadyH.cons rfl (fun K hK => ?_) AllReadyH.nil
       have HK2 := Lib.hid hK
       clear hK
       try rw [if_pos (by rfl)]
       go_simp
       refine HK2.out _ _ HS9.out (fun hHeld => ?_)
       clear HK2
       try simp only [Act.put, getElem_toArray, getElem_cons_succ, getElem_cons_zero, setIfInBounds_toArray, set_cons_zero, set_cons_succ]
       clear K
       refine wpAnyH_done (by kernel_rfl) ?_ _
       clear hHeld
       go_wp2_with (fail)
       go_ret
       exact ⟨rfl, below_then HC5.out HS9.out HC5.out.size⟩
     ·have HK2 := Lib.hid hK
      clear hK
      try rw [if_pos (by rfl)]
      go_simp
      have hal : Below vb.heap.size vb (vb.alloc (.cells #[.string ⟨#[41]⟩] 9)) := box_new _
      have hsr : Src (vb.alloc (.cells #[.string ⟨#[41]⟩] 9)) (some ⟨vb.heap.size, 0, none⟩) 1 1 [wShut] := Src.new vb [wShut] _ _
      have hsn := below_then HSb.out hal HSb.out.size
      clear hal
      generalize vb.alloc (.cells #[.string ⟨#[41]⟩] 9) = x10 at hsr hsn ⊢
      generalize vb.heap.size = g10 at hsr ⊢
      have HS10 := Lib.hid hsn; have HX10 := Lib.hid hsr
      clear hsn hsr 
      refine HK2.out _ _ HS10.out (fun hHeld => ?_)
      clear HK2
      try simp only [Act.put, getElem_toArray, getElem_cons_succ, getElem_cons_zero, setIfInBounds_toArray, set_cons_zero, set_cons_succ]
      clear K
      refine wpAnyH_ready (rs := [12]) (by kernel_rfl) (by simp) ?_
      refine AllReadyH.cons rfl (fun K hK => ?_) AllReadyH.nil
      have HK2 := Lib.hid hK
      clear hK
      try rw [if_pos (by rfl)]
      go_simp
      have hal : Below x10.heap.size x10 (x10.alloc (.cells #[.string ⟨#[40]⟩] 9)) := box_new _
      have hsr : Src (x10.alloc (.cells #[.string ⟨#[40]⟩] 9)) (some ⟨x10.heap.size, 0, none⟩) 1 1 [wOpen] := Src.new x10 [wOpen] _ _
      have hsn := below_then HS10.out hal HS10.out.size
      have hoth := HX10.out.below hal
      clear hal
      generalize x10.alloc (.cells #[.string ⟨#[40]⟩] 9) = x11 at hsr hsn hoth ⊢
      generalize x10.heap.size = g11 at hsr ⊢
      have HS11 := Lib.hid hsn; have HX11 := Lib.hid hsr; have HO11 := Lib.hid hoth
      clear hsn hsr hoth
      refine HK2.out _ _ HS11.out (fun hHeld => ?_)
      clear HK2
      try simp only [Act.put, getElem_toArray, getElem_cons_succ, getElem_cons_zero, setIfInBounds_toArray, set_cons_zero, set_cons_succ]
      clear K
      refine wpAnyH_ready (rs := [13]) (by kernel_rfl) (by simp) ?_
      refine AllReadyH.cons rfl (fun K hK => ?_) AllReadyH.nil
      have HK2 := Lib.hid hK
      clear hK
      try rw [if_pos (by rfl)]
      go_simp
      refine (HCO.out _ (below_then HC5.out HS11.out HC5.out.size) _ HX11.out).mono ?_
      rintro e v12 ⟨rfl, hbb⟩
      have HS12 := Lib.hid (below_then HS11.out hbb HS11.out.size)
      have HO12 := Lib.hid (HO11.out.below hbb)
      clear hbb
      refine HK2.out _ _ HS12.out (fun hHeld => ?_)
      clear HK2
      try simp only [Act.put, getElem_toArray, getElem_cons_succ, getElem_cons_zero, setIfInBounds_toArray, set_cons_zero, set_cons_succ]
      clear K
      refine wpAnyH_ready (rs := [16]) (by kernel_rfl) (by simp) ?_
      refine AllReadyH.cons rfl (fun K hK => ?_) AllReadyH.nil
      have HK2 := Lib.hid hK
      clear hK
      try rw [if_pos (by rfl)]
      go_simp
      refine (HCS.out _ (below_then HC5.out HS12.out HC5.out.size) _ HO12.out).mono ?_
      rintro e v13 ⟨rfl, hbb⟩
      have HS13 := Lib.hid (below_then HS12.out hbb HS12.out.size)
      clear hbb
      refine HK2.out _ _ HS13.out (fun hHeld => ?_)
      clear HK2
      try simp only [Act.put, getElem_toArray, getElem_cons_succ, getElem_cons_zero, setIfInBounds_toArray, set_cons_zero, set_cons_succ]
      clear K
      refine tk (i := 17) (v := .bool true) rfl (by kernel_rfl) (fun _ _ _ h => h) (by rfl) ?_ (by assumption) ?_
      ·intro w' hSw
       first | (go_simp; done) | rfl
      refine tk (i := 18) (v := .bool true) rfl (by kernel_rfl) (fun _ _ _ h => h) (by rfl) ?_ (by assumption) ?_
      ·intro w' hSw
       first | (go_simp; done) | rfl
      try simp only [Act.put, getElem_toArray, getElem_cons_succ, getElem_cons_zero, setIfInBounds_toArray, set_cons_zero, set_cons_succ]
      refine tk (i := 19) (v := .bool true) rfl (by kernel_rfl) (fun _ _ _ h => h) (by rfl) ?_ (by assumption) ?_
      ·intro w' hSw
       first | (go_simp; done) | rfl
      try simp only [Act.put, getElem_toArray, getElem_cons_succ, getElem_cons_zero, setIfInBounds_toArray, set_cons_zero, set_cons_succ]
      refine wpAnyH_ready (rs := [20]) (by kernel_rfl) (by simp) ?_
      refine AllReadyH.cons rfl (fun K hK => ?_) AllReadyH.nil
      have HK2 := Lib.hid hK
      clear hK
      try rw [if_pos (by rfl)]
      go_simp
      refine (HAW.out _ (below_then HC5.out HS13.out HC5.out.size)).mono ?_
      rintro e v14 ⟨rfl, hbb⟩
      have HS14 := Lib.hid (below_then HS13.out hbb HS13.out.size)
      clear hbb
      refine HK2.out _ _ HS14.out (fun hHeld => ?_)
      clear HK2
      try simp only [Act.put, getElem_toArray, getElem_cons_succ, getElem_cons_zero, setIfInBounds_toArray, set_cons_zero, set_cons_succ]
      clear K
      refine tk (i := 21) (v := .bool true) rfl (by kernel_rfl) (fun _ _ _ h => h) (by rfl) ?_ (by assumption) ?_
      ·intro w' hSw
       first | (go_simp; done) | rfl
      try simp only [Act.put, getElem_toArray, getElem_cons_succ, getElem_cons_zero, setIfInBounds_toArray, set_cons_zero, set_cons_succ]
      refine wpAnyH_ready (rs := [22]) (by kernel_rfl) (by simp) ?_
      refine AllReadyH.cons rfl (fun K hK => ?_) AllReadyH.nil
      have HK2 := Lib.hid hK
      clear hK
      try rw [if_pos (by rfl)]
      go_simp
      refine HK2.out _ _ HS14.out (fun hHeld => ?_)
      clear HK2
      try simp only [Act.put, getElem_toArray, getElem_cons_succ, getElem_cons_zero, setIfInBounds_toArray, set_cons_zero, set_cons_succ]
      clear K
      refine wpAnyH_done (by kernel_rfl) ?_ _
      clear hHeld
      go_wp2_with (fail)
      go_ret
      exact ⟨rfl, below_then HC5.out HS14.out HC5.out.size⟩
theorem src_of {w : World} {p : Option Addr} {n c : Nat} {zs : List ByteArray} (h : Views.IsStrs w p n c zs) : Src w p n c (zs.take n) ∧ n ≤ c ∧ c ≤ maxLen := by
 rcases h with ⟨rfl, rfl, rfl, rfl⟩ | ⟨x, rfl, hl, hm, hz, hc, hw⟩
 ·exact ⟨Src.none w, Nat.le_refl _, Nat.zero_le _⟩
 ·refine ⟨⟨by rw [List.length_take]; omega, .inr ⟨x, rfl, fun j u hu => ?_⟩⟩, hl, hm⟩
  rw [List.getElem?_map, Option.map_eq_some_iff] at hu
  obtain ⟨s, hs, rfl⟩ := hu
  rw [List.getElem?_take] at hs
  by_cases hj : j < n
  ·rw [if_pos hj] at hs
   have h2 := hc j (by omega)
   rw [List.getD_eq_getElem?_getD, hs] at h2
   exact h2
  ·rw [if_neg hj] at hs; cases hs
theorem countsLaw_walk2 (h : Hd) (v : V) (l : Nat) (t : AT) (p : Option Addr) (n c : Nat) (zs : List ByteArray) (w : World) (hT : AtIs w h v l t) (hZ : Views.IsStrs w p n c zs) (hla : Laid w) (hfl : FldLaid w) :
  Calls Tryz.prog 3 #[.agg #[.int .u8 h.h.k, .int .u8 h.h.op, .int .i64 h.h.pl, .int .i64 h.h.n, .string h.h.name, .string h.h.arg, .string h.h.exn, .int .i64 h.rho, .slice v.ra h.rhos.length v.rc, .slice v.ea h.e.length v.ec, .int .u8 h.ty.h.k, .int .i64 h.ty.h.r, .slice v.tea h.ty.h.e.length v.tec, .slice v.tka h.ty.ks.length v.tkc, .int .u8 h.re.h.k, .int .i64 h.re.h.r, .slice v.sea h.re.h.e.length v.sec, .slice v.ska h.re.ks.length v.skc, .slice v.ka l v.kc], .slice p n c] w fun e w' => e = .returned (.bool true) ∧ Below w.heap.size w w' :=
 countsLaw_walk h v l t p n c (zs.take n) w hT (src_of hZ).1 (src_of hZ).2 hla hfl
end Disp
end Go.Proofs.YtkfkpjngiffamaaGreatDoor
