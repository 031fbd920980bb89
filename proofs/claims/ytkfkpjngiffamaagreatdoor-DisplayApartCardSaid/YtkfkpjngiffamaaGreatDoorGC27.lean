import Derived.Test.YtkfkpjngiffamaaGreatDoorGC16
import Derived.Test.YtkfkpjngiffamaaGreatDoorGC09
import Derived.Test.YtkfkpjngiffamaaGreatDoorGC26
import Derived.Test.YtkfkpjngiffamaaGreatDoorGC15
import Derived.Deep.RegionHeld3
import Derived.Test.YtkfkpjngiffamaaGreatDoorGC21
import Derived.Test.YtkfkpjngiffamaaGreatDoorGC24
import Derived.Test.YtkfkpjngiffamaaGreatDoorGC23
import Derived.Deep.DeepCutAuto
import Derived.Test.YtkfkpjngiffamaaGreatDoorGC12
import Derived.Lib.Fields

namespace Go.Proofs.YtkfkpjngiffamaaGreatDoor
open Go.RowKit
set_option linter.unusedVariables false
set_option linter.unusedSimpArgs false
namespace Aterm
open Effect (RdI nget nget_at nget_mem Ixs intsV own_slice)
open Rt (box_new box_at below_then)

structure AllAt (w0 W : World) (g c : Nat) (F : List AT) : Prop where
 own : ∃ B xs, W.ownsRow B 31 19 (.slice (some ⟨g, 0, none⟩) F.length c) F.length xs ∧ Flat w0 xs F
theorem AllAt.below {w0 W W' : World} {g c : Nat} {F : List AT} (h : AllAt w0 W g c F) (hb : Below W.heap.size W W') : AllAt w0 W' g c F := by
 obtain ⟨B, xs, h1, h2⟩ := h.own
 exact ⟨B, xs, own_below h1 hb, h2⟩
theorem ixs_ne {B m g : Nat} {W : World} {v : Value} {l : List Int} (h : Ixs B W v m l) {cur : Array Value} {fr : Nat × Nat} (hg : W.heap[g]? = some (.cells cur 31 fr)) : some g ≠ v.ownBlock := by
 intro e
 rcases h.2 with ⟨rfl, _⟩ | ⟨k, cap, cur', rfl, _, hk, _⟩
 ·simp [Value.ownBlock] at e
 ·simp [Value.ownBlock] at e
  subst e
  rw [hg] at hk
  injection hk with hk
  injection hk with _ hk _
  exact absurd hk (by decide)
theorem AllAt.grown {w0 W W' : World} {g c B m : Nat} {F : List AT} {v : Value} {l : List Int} (h : AllAt w0 W g c F) (hi : Ixs B W v m l) (hg : W.grownBy W' v.ownBlock) : AllAt w0 W' g c F := by
 obtain ⟨B', xs, h1, h2⟩ := h.own
 refine ⟨B', xs, h1.kept hg ?_, h2⟩
 rcases h1.2 with ⟨e, _⟩ | ⟨k, cap, cur, e, _, hk, _⟩
 ·cases e
 ·injection e with e
  injection e with e
  injection e with e
  subst e
  exact .inr (ixs_ne hi hk)
theorem AllAt.get {w0 W : World} {g c : Nat} {F : List AT} (h : AllAt w0 W g c F) (j : Nat) (hj : j < F.length) :
  ∃ v, AtIs w0 (tget F j).h v (tget F j).ks.length (tget F j) ∧ W.rangeAt g (j * 19) (acells (tget F j).h v (tget F j).ks.length) := by
 obtain ⟨B, xs, h1, h2⟩ := h.own
 obtain ⟨v, h3, h4⟩ := h2.get j hj
 refine ⟨v, h3, fun i x hx => ?_⟩
 have := h1.cells (g := g) rfl _ _ (h4 i x hx)
 rw [Addr.add_lit, Nat.zero_add] at this
 exact this
theorem own_lower {W : World} {B B' e s n : Nat} {v : Value} {xs : List Value} (h : W.ownsRow B e s v n xs) (hB : B' ≤ B) : W.ownsRow B' e s v n xs :=
 ⟨h.1, h.2.imp id (fun ⟨g, cap, cur, a, b, r⟩ => ⟨g, cap, cur, a, by omega, r⟩)⟩

end Aterm
end Go.Proofs.YtkfkpjngiffamaaGreatDoor
namespace Go.Proofs.YtkfkpjngiffamaaGreatDoor
open Go.RowKit
set_option linter.unusedVariables false
set_option linter.unusedSimpArgs false
namespace Aterm
open Effect (RdI nget nget_at nget_mem ret_bool ret_i64 lt_of_block heap_alloc_new ofA)
open Rt (box_new box_at below_then)

theorem may_flat {t : AT} (hw : wt t ≤ 40000) : mayT t = decide (∀ j, j < (flatT t).length → nodeB (tget (flatT t) j).h (tget (flatT t) j).ks.length = true) := by
 unfold mayT
 rw [decide_eq_true hw, Bool.true_and, allT_flat, Bool.eq_iff_iff, List.all_eq_true, decide_eq_true_eq]
 constructor
 ·intro h j hj; exact h _ (tget_mem hj)
 ·intro h x hx
  obtain ⟨j, hj, rfl⟩ := List.getElem_of_mem hx
  have h1 := tget_at hj
  rw [List.getElem?_eq_getElem hj] at h1
  rw [Option.some.inj h1]; exact h j hj
theorem small_flat {t : AT} (hc : allT smallB t = true) {j : Nat} (hj : j < (flatT t).length) : smallB (tget (flatT t) j).h (tget (flatT t) j).ks.length = true := by
 rw [allT_flat, List.all_eq_true] at hc
 exact hc _ (tget_mem hj)
set_option maxRecDepth 100000 in
set_option maxHeartbeats 3200000 in
theorem refMayA_walk (t : AT) (h : Hd) (v : V) (l : Nat) (w : World) (hT : AtIs w h v l t) (hw : wt t ≤ 40000) (hc : allT smallB t = true) :
  Calls Tryz.prog 7 #[.agg #[.int .u8 h.h.k, .int .u8 h.h.op, .int .i64 h.h.pl, .int .i64 h.h.n, .string h.h.name, .string h.h.arg, .string h.h.exn, .int .i64 h.rho, .slice v.ra h.rhos.length v.rc, .slice v.ea h.e.length v.ec, .int .u8 h.ty.h.k, .int .i64 h.ty.h.r, .slice v.tea h.ty.h.e.length v.tec, .slice v.tka h.ty.ks.length v.tkc, .int .u8 h.re.h.k, .int .i64 h.re.h.r, .slice v.sea h.re.h.e.length v.sec, .slice v.ska h.re.ks.length v.skc, .slice v.ka l v.kc]] w fun e w' => e = .returned (.bool (mayT t)) ∧ Below w.heap.size w w' := by
 have hmf := may_flat hw
 have hfl := flatT_len t
 have hsf := fun (j : Nat) (hj : j < (flatT t).length) => small_flat hc hj
 have HT := Lib.hid hT; have HWT := Lib.hid hw; have HMF := Lib.hid hmf; have HSF := Lib.hid hsf
 clear hT hw hmf hsf hc
 go_enter Tryz.func7, Tryz.ntmps7
 go_upto_region 1 with (fail)
 obtain ⟨W0, hW0⟩ : ∃ W0, W0 = w.alloc (.cells #[.int .u8 h.h.k, .int .u8 h.h.op, .int .i64 h.h.pl, .int .i64 h.h.n, .string h.h.name, .string h.h.arg, .string h.h.exn, .int .i64 h.rho, .slice v.ra h.rhos.length v.rc, .slice v.ea h.e.length v.ec, .int .u8 h.ty.h.k, .int .i64 h.ty.h.r, .slice v.tea h.ty.h.e.length v.tec, .slice v.tka h.ty.ks.length v.tkc, .int .u8 h.re.h.k, .int .i64 h.re.h.r, .slice v.sea h.re.h.e.length v.sec, .slice v.ska h.re.ks.length v.skc, .slice v.ka l v.kc] 31) := ⟨_, rfl⟩
 have hbx : Box W0 w.heap.size h v l := by rw [hW0]; exact box_of (w := w) (h := h) (v := v) (l := l)
 have hb0 : Below w.heap.size w W0 := by rw [hW0]; exact box_new _
 rw [← hW0]
 clear hW0
 generalize hN0 : w.heap.size = N0 at hbx ⊢
 have HB0 := Lib.hid hb0; have HBX := Lib.hid hbx; have HRG := Lib.hid hbx.range
 obtain ⟨b0, b1, b2, b3, b4, b5, b6, b7, b8, b9, b10, b11, b12, b13, b14, b15, b16, b17, b18⟩ := hbx
 clear hb0 hN0 b0 b1 b2 b3 b4 b5 b6 b7 b8 b9 b10 b11 b12 b13 b14 b15 b16 b17 b18
 go_wp2_with (refine at_load rfl _ rfl N0 0 rfl HRG.out ?_)
 refine (refAll_walk (wt t) t h v l w W0 (Nat.le_refl _) (by have := HWT.out; omega) HT.out HB0.out).mono ?_
 rintro e w2 ⟨g, c2, xs, rfl, hown2, hfl2, hb2⟩
 have hall : AllAt w w2 g c2 (flatT t) := ⟨_, xs, by rw [hfl]; exact hown2, hfl2⟩
 have HB2 := Lib.hid (below_then HB0.out hb2 HB0.out.size); have HALL := Lib.hid hall
 clear hown2 hfl2 hb2 hall
 generalize hF : flatT t = F at *
 obtain ⟨n, hn⟩ : ∃ n, n = wt t := ⟨_, rfl⟩
 rw [← hn] at hfl ⊢
 have hn4 : (n : Int) ≤ 40000 := by have := HWT.out; omega
 have g4 : decide ((40000 : Int) < (n : Int)) = false := decide_eq_false (by omega)
 have HFL := Lib.hid hfl
 clear hfl hn hF
 go_wp2_with (fail)
 go_loopw [4, 12] (fun _ i wr => ∃ j : Nat, j ≤ n ∧ i = .int .i64 j ∧ Hid (Below w.heap.size w wr) ∧ Hid (AllAt w wr g c2 F) ∧ Hid (∀ i, i < j → nodeB (tget F i).h (tget F i).ks.length = true)) (fun _ i _ => n - (intOf i).toNat)
 case atStart => exact ⟨0, Nat.zero_le _, rfl, HB2, HALL, Lib.hid (fun i hi => by omega)⟩
 case round =>
  obtain ⟨j, hj, rfl, HB, HA, HE⟩ := hrel
  by_cases hlt : j < n
  ·have hjf : j < F.length := by rw [HFL.out]; exact hlt
   obtain ⟨v', hat, hrg⟩ := HA.out.get j hjf
   have hsm := HSF.out j hjf
   have hnode := refNodeA_walk (tget F j) _ v' _ wr (hat.below HB.out) hsm
   have hno : nodeB (tget F j).h (tget F j).ks.length = false → mayT t = false := fun hh => by
    rw [HMF.out, decide_eq_false_iff_not]
    intro ha
    have := ha j hjf
    rw [hh] at this; cases this
   have hyes : nodeB (tget F j).h (tget F j).ks.length = true → ∀ i, i < j + 1 → nodeB (tget F i).h (tget F i).ks.length = true := fun hh i hi => by
    rcases Nat.lt_or_ge i j with h1 | h1
    ·exact HE.out i h1
    ·rw [show i = j by omega]; exact hh
   have HNODE := Lib.hid hnode; have HRJ := Lib.hid hrg; have HNO := Lib.hid hno; have HYES := Lib.hid hyes
   clear hnode hrg hno hyes hat hsm hjf
   have j0 : (0 : Int) ≤ (j : Int) := by omega
   have j1 : (j : Int) < (n : Int) := by omega
   go_wp2_with (refine at_load rfl _ rfl g (j * 19) rfl HRJ.out ?_)
   refine HNODE.out.mono ?_
   rintro e w3 ⟨rfl, hb3⟩
   have HB3 := Lib.hid (below_then HB.out hb3 HB.out.size); have HA3 := Lib.hid (HA.out.below hb3)
   clear hb3 HNODE
   generalize nodeB (tget F j).h (tget F j).ks.length = X at *
   cases X
   ·have HR := Lib.hid (HNO.out rfl)
    go_wp2_with (fail)
    go_ret
    exact ⟨ret_bool HR.out.symm, HB3.out⟩
   ·have HR := Lib.hid (HYES.out rfl)
    go_wp2_with (fail)
    go_roundw
    case rel => exact ⟨j + 1, by omega, by go_num, HB3, HA3, HR⟩
    case measure => simp [intOf]; omega
  ·obtain rfl : j = n := by omega
   have HR := Lib.hid (show mayT t = true by
    rw [HMF.out]
    exact decide_eq_true (fun i hi => HE.out i (by rw [HFL.out] at hi; exact hi)))
   go_wp2_with (fail)
   go_ret
   exact ⟨ret_bool HR.out.symm, HB.out⟩
end Aterm
end Go.Proofs.YtkfkpjngiffamaaGreatDoor
namespace Go.Proofs.YtkfkpjngiffamaaGreatDoor
open Go.RowKit
set_option linter.unusedVariables false
set_option linter.unusedSimpArgs false
namespace Disp
open Effect (lt_of_block heap_alloc_new)
open Aterm (AT Hd V AtIs HdIs acells tget wt wts nodeB allT allK smallB Box box_of at_load at_load_g exec_at range_below of_world atInfo greatT small_of great_walk refMayA_walk row_new mayT refSame_walk)
open Rt (box_new below_then)
open Types (jb)
open Types (Reads veil veil_to veil_at veil_own veil_seen)

theorem zero_all {B : Hd → Nat → Bool} (hB : ∀ h n, B (zeroH h) n = B h n) : ∀ m : Nat, (∀ t : AT, wt t ≤ m → allT B (zeroT t) = allT B t) ∧ (∀ l : List AT, wts l ≤ m → allK B (zeroK l) = allK B l) := by
 intro m
 induction m with
 | zero =>
  refine ⟨fun t h => by have := Aterm.wt_pos t; omega, fun l h => ?_⟩
  cases l with
  | nil => rfl
  | cons t ts => rw [Aterm.wts_cons] at h; have := Aterm.wt_pos t; omega
 | succ m ih =>
  have hT : ∀ t : AT, wt t ≤ m + 1 → allT B (zeroT t) = allT B t := fun t h => by
   have := Aterm.wt_ks t
   rw [Aterm.allT_eq, Aterm.allT_eq B t, zeroT_h, zeroT_ks, hB, ih.2 _ (by omega), zeroK_map, List.length_map]
  refine ⟨hT, fun l => ?_⟩
  induction l with
  | nil => intro _; rfl
  | cons t ts ih2 =>
   intro h
   rw [Aterm.wts_cons] at h
   rw [zeroK, Aterm.allK_cons, Aterm.allK_cons, hT t (by omega), ih2 (by omega)]
theorem zero_small {t : AT} (h : allT smallB t = true) : allT smallB (zeroT t) = true := by
 rw [(zero_all (B := smallB) (fun h n => rfl) _).1 t (Nat.le_refl _)]; exact h
theorem str_iff (a b : ByteArray) : (a.toList == b.toList) = decide (a = b) := by
 by_cases h : a = b
 ·subst h; simp
 ·have hn : a.toList ≠ b.toList := fun e => h (Effect.toList_inj e)
  rw [decide_eq_false h]
  simpa using hn
set_option maxRecDepth 100000 in
set_option maxHeartbeats 12800000 in
theorem apartLaw_walk (h : Hd) (v : V) (l : Nat) (t : AT) (h' : Hd) (v' : V) (l' : Nat) (u : AT) (w : World) (hT : AtIs w h v l t) (hU : AtIs w h' v' l' u) (hla : Laid w) :
  Calls Tryz.prog 4 #[.agg #[.int .u8 h.h.k, .int .u8 h.h.op, .int .i64 h.h.pl, .int .i64 h.h.n, .string h.h.name, .string h.h.arg, .string h.h.exn, .int .i64 h.rho, .slice v.ra h.rhos.length v.rc, .slice v.ea h.e.length v.ec, .int .u8 h.ty.h.k, .int .i64 h.ty.h.r, .slice v.tea h.ty.h.e.length v.tec, .slice v.tka h.ty.ks.length v.tkc, .int .u8 h.re.h.k, .int .i64 h.re.h.r, .slice v.sea h.re.h.e.length v.sec, .slice v.ska h.re.ks.length v.skc, .slice v.ka l v.kc], .agg #[.int .u8 h'.h.k, .int .u8 h'.h.op, .int .i64 h'.h.pl, .int .i64 h'.h.n, .string h'.h.name, .string h'.h.arg, .string h'.h.exn, .int .i64 h'.rho, .slice v'.ra h'.rhos.length v'.rc, .slice v'.ea h'.e.length v'.ec, .int .u8 h'.ty.h.k, .int .i64 h'.ty.h.r, .slice v'.tea h'.ty.h.e.length v'.tec, .slice v'.tka h'.ty.ks.length v'.tkc, .int .u8 h'.re.h.k, .int .i64 h'.re.h.r, .slice v'.sea h'.re.h.e.length v'.sec, .slice v'.ska h'.re.ks.length v'.skc, .slice v'.ka l' v'.kc]] w fun e w' => e = .returned (.bool true) ∧ Below w.heap.size w w' := by
 have haw := fun (W : World) (hb : Below w.heap.size w W) => awake_walk W (hla.below hb)
 have hg1 := fun (W : World) (hb : Below w.heap.size w W) => great_walk t h v l W (hT.below hb)
 have hg2 := fun (W : World) (hb : Below w.heap.size w W) => great_walk u h' v' l' W (hU.below hb)
 have HAW := Lib.hid haw; have HG1 := Lib.hid hg1; have HG2 := Lib.hid hg2; have HT := Lib.hid hT; have HU := Lib.hid hU; have HLA := Lib.hid hla
 clear haw hg1 hg2 hT hU hla
 go_enter Tryz.func4, Tryz.ntmps4
 go_upto_region 1 with (fail)
 obtain ⟨W0, hW0⟩ : ∃ W0, W0 = (w.alloc (.cells #[.int .u8 h.h.k, .int .u8 h.h.op, .int .i64 h.h.pl, .int .i64 h.h.n, .string h.h.name, .string h.h.arg, .string h.h.exn, .int .i64 h.rho, .slice v.ra h.rhos.length v.rc, .slice v.ea h.e.length v.ec, .int .u8 h.ty.h.k, .int .i64 h.ty.h.r, .slice v.tea h.ty.h.e.length v.tec, .slice v.tka h.ty.ks.length v.tkc, .int .u8 h.re.h.k, .int .i64 h.re.h.r, .slice v.sea h.re.h.e.length v.sec, .slice v.ska h.re.ks.length v.skc, .slice v.ka l v.kc] 31)).alloc (.cells #[.int .u8 h'.h.k, .int .u8 h'.h.op, .int .i64 h'.h.pl, .int .i64 h'.h.n, .string h'.h.name, .string h'.h.arg, .string h'.h.exn, .int .i64 h'.rho, .slice v'.ra h'.rhos.length v'.rc, .slice v'.ea h'.e.length v'.ec, .int .u8 h'.ty.h.k, .int .i64 h'.ty.h.r, .slice v'.tea h'.ty.h.e.length v'.tec, .slice v'.tka h'.ty.ks.length v'.tkc, .int .u8 h'.re.h.k, .int .i64 h'.re.h.r, .slice v'.sea h'.re.h.e.length v'.sec, .slice v'.ska h'.re.ks.length v'.skc, .slice v'.ka l' v'.kc] 31) := ⟨_, rfl⟩
 have hbx1 : Box W0 w.heap.size h v l := by rw [hW0]; exact (box_of (w := w) (h := h) (v := v) (l := l)).below (box_new _)
 have hbx2 : Box W0 (w.heap.size + 1) h' v' l' := by
  rw [hW0]
  have := box_of (w := w.alloc (.cells #[.int .u8 h.h.k, .int .u8 h.h.op, .int .i64 h.h.pl, .int .i64 h.h.n, .string h.h.name, .string h.h.arg, .string h.h.exn, .int .i64 h.rho, .slice v.ra h.rhos.length v.rc, .slice v.ea h.e.length v.ec, .int .u8 h.ty.h.k, .int .i64 h.ty.h.r, .slice v.tea h.ty.h.e.length v.tec, .slice v.tka h.ty.ks.length v.tkc, .int .u8 h.re.h.k, .int .i64 h.re.h.r, .slice v.sea h.re.h.e.length v.sec, .slice v.ska h.re.ks.length v.skc, .slice v.ka l v.kc] 31)) (h := h') (v := v') (l := l') (ty := 31)
  rwa [World.size_alloc] at this
 have hb0 : Below w.heap.size w W0 := by rw [hW0]; exact (box_new _).trans ((box_new _).mono (by simp))
 rw [← hW0]
 clear hW0
 generalize hN2 : w.heap.size + 1 = N2 at hbx2 ⊢
 generalize hN1 : w.heap.size = N1 at hbx1 ⊢
 have HC0 := Lib.hid hb0; have HX1 := Lib.hid hbx1.range; have HX2 := Lib.hid hbx2.range
 clear hb0 hN1 hN2 hbx1 hbx2
 go_wp2_with (refine at_load rfl _ rfl N1 0 rfl HX1.out ?_)
 refine (HG1.out W0 HC0.out).mono ?_
 rintro e w1 ⟨rfl, hb1⟩
 have HC1 := Lib.hid (below_then HC0.out hb1 HC0.out.size); have P1 := Lib.hid (range_below HX1.out hb1); have Q1 := Lib.hid (range_below HX2.out hb1)
 clear hb1
 cases hq1 : greatT t
 case true =>
  go_wp2_with (fail)
  refine (HAW.out w1 HC1.out).mono ?_
  rintro e w2 ⟨rfl, hb2⟩
  have HC2 := Lib.hid (below_then HC1.out hb2 HC1.out.size)
  clear hb2
  go_wp2_with (fail)
  go_ret
  exact ⟨rfl, HC2.out⟩
 go_wp2_with (refine at_load_g (by rfl) _ rfl N2 0 rfl Q1.out ?_)
 refine (HG2.out w1 HC1.out).mono ?_
 rintro e w2 ⟨rfl, hb1⟩
 have HC2 := Lib.hid (below_then HC1.out hb1 HC1.out.size); have P2 := Lib.hid (range_below P1.out hb1); have Q2 := Lib.hid (range_below Q1.out hb1)
 clear hb1
 cases hq2 : greatT u
 case true =>
  go_wp2_with (fail)
  refine (HAW.out w2 HC2.out).mono ?_
  rintro e w3 ⟨rfl, hb2⟩
  have HC3 := Lib.hid (below_then HC2.out hb2 HC2.out.size)
  clear hb2
  go_wp2_with (fail)
  go_ret
  exact ⟨rfl, HC3.out⟩
 have hs1 := small_of hq1
 have hs2 := small_of hq2
 have hd1 := fun (W : World) (hb : Below w.heap.size w W) => refMayA_walk t h v l W (HT.out.below hb) (by omega) hs1.2
 have hd2 := fun (W : World) (hb : Below w.heap.size w W) => refMayA_walk u h' v' l' W (HU.out.below hb) (by omega) hs2.2
 have hme1 := may_small (t := t) (by omega)
 have hme2 := may_small (t := u) (by omega)
 have HD1 := Lib.hid hd1; have HD2 := Lib.hid hd2; have HME1 := Lib.hid hme1; have HME2 := Lib.hid hme2; have HS1 := Lib.hid hs1; have HS2 := Lib.hid hs2
 clear hd1 hd2 hme1 hme2 hs1 hs2 hq1 hq2
 go_wp2_with (first | refine at_load_g (by first | rfl | simp [Region.wanted, yielded, Act.put]) _ rfl N1 0 rfl P2.out ?_ | refine at_load_g (by first | rfl | simp [Region.wanted, yielded, Act.put]) _ rfl N2 0 rfl Q2.out ?_)
 refine (HD1.out w2 HC2.out).mono ?_
 rintro e w3 ⟨rfl, hb1⟩
 have HC3 := Lib.hid (below_then HC2.out hb1 HC2.out.size); have P3 := Lib.hid (range_below P2.out hb1); have Q3 := Lib.hid (range_below Q2.out hb1)
 clear hb1
 rw [HME1.out]
 cases hm1 : allT nodeB t
 ·clear hm1
  go_wp2_with (fail)
  refine (HAW.out w3 HC3.out).mono ?_
  rintro e w5 ⟨rfl, hb5⟩
  have HC5 := Lib.hid (below_then HC3.out hb5 HC3.out.size)
  clear hb5
  go_wp2_with (fail)
  go_ret
  exact ⟨rfl, HC5.out⟩
 go_wp2_with (first | refine at_load_g (by first | rfl | simp [Region.wanted, yielded, Act.put]) _ rfl N2 0 rfl Q3.out ?_ | refine at_load_g (by first | rfl | simp [Region.wanted, yielded, Act.put]) _ rfl N1 0 rfl P3.out ?_)
 refine (HD2.out w3 HC3.out).mono ?_
 rintro e w4 ⟨rfl, hb1⟩
 have HC4 := Lib.hid (below_then HC3.out hb1 HC3.out.size); have P4 := Lib.hid (range_below P3.out hb1); have Q4 := Lib.hid (range_below Q3.out hb1)
 clear hb1
 rw [HME2.out]
 cases hm2 : allT nodeB u
 ·clear hm2
  go_wp2_with (fail)
  refine (HAW.out w4 HC4.out).mono ?_
  rintro e w5 ⟨rfl, hb5⟩
  have HC5 := Lib.hid (below_then HC4.out hb5 HC4.out.size)
  clear hb5
  go_wp2_with (fail)
  go_ret
  exact ⟨rfl, HC5.out⟩
 obtain ⟨e1, e2⟩ := text_yes hm1
 obtain ⟨e3, e4⟩ := text_yes hm2
 have hp1 := fun (W : World) (hb : Below w.heap.size w W) => text_walk t h v l W (HT.out.below hb) (by have := HS1.out.1; omega) HS1.out.2 (HLA.out.below hb).kw (HLA.out.below hb).num (HLA.out.below hb).sg
 have hp2 := fun (W : World) (hb : Below w.heap.size w W) => text_walk u h' v' l' W (HU.out.below hb) (by have := HS2.out.1; omega) HS2.out.2 (HLA.out.below hb).kw (HLA.out.below hb).num (HLA.out.below hb).sg
 unfold TermEnd at hp1 hp2
 rw [e1, e2] at hp1
 rw [e3, e4] at hp2
 have hiff := text_iff hm1 hm2
 have HP1 := Lib.hid hp1; have HP2 := Lib.hid hp2; have HIFF := Lib.hid hiff
 clear hp1 hp2 e1 e2 e3 e4 hiff hm1 hm2
 generalize jb (partsT t) = J1 at *
 generalize jb (partsT u) = J2 at *
 go_wp2_with (first | refine at_load rfl _ rfl N1 0 rfl P4.out ?_ | refine at_load rfl _ rfl N2 0 rfl Q4.out ?_)
 refine (HP1.out w4 HC4.out).mono ?_
 rintro e w5 ⟨rfl, hb1⟩
 have HC5 := Lib.hid (below_then HC4.out hb1 HC4.out.size); have P5 := Lib.hid (range_below P4.out hb1); have Q5 := Lib.hid (range_below Q4.out hb1)
 clear hb1
 go_wp2_with (first | refine at_load rfl _ rfl N2 0 rfl Q5.out ?_ | refine at_load rfl _ rfl N1 0 rfl P5.out ?_)
 refine (HP2.out w5 HC5.out).mono ?_
 rintro e w6 ⟨rfl, hb1⟩
 have HC6 := Lib.hid (below_then HC5.out hb1 HC5.out.size); have P6 := Lib.hid (range_below P5.out hb1); have Q6 := Lib.hid (range_below Q5.out hb1)
 clear hb1
 have hB : (J1.toList == J2.toList) = Aterm.sameT (zeroT t) (zeroT u) := by
  rw [str_iff]
  cases hs : Aterm.sameT (zeroT t) (zeroT u)
  ·exact decide_eq_false fun e => by have := HIFF.out.1 e; rw [hs] at this; cases this
  ·exact decide_eq_true (HIFF.out.2 hs)
 have hc1 := fun (W : World) (hb : Below w.heap.size w W) => placed_walk (wt t) t h v l w W (Nat.le_refl _) (by have := HS1.out.1; omega) HT.out hb
 have hc2 := fun (W : World) (hb : Below w.heap.size w W) => placed_walk (wt u) u h' v' l' w W (Nat.le_refl _) (by have := HS2.out.1; omega) HU.out hb
 have hz1 := zero_small HS1.out.2
 have hz2 := zero_small HS2.out.2
 have hss := fun (q1 q2 : V) (W : World) (h1 : AtIs W (zeroT t).h q1 (zeroT t).ks.length (zeroT t)) (h2 : AtIs W (zeroT u).h q2 (zeroT u).ks.length (zeroT u)) => refSame_walk _ (zeroT t) (zeroT u) _ _ q1 q2 _ _ W (Nat.le_refl _) h1 h2 hz1 hz2
 unfold PlaceEnd at hc1 hc2
 clear HIFF hz1 hz2 HME1 HME2
 generalize zeroT t = T1 at *
 generalize zeroT u = T2 at *
 generalize Aterm.sameT T1 T2 = B at *
 have e0 : (B == B) = true := by simp
 have HC1' := Lib.hid hc1; have HC2' := Lib.hid hc2; have HSS := Lib.hid hss
 clear hc1 hc2 hss
 go_upto_region 5 with (fail)
 refine wp_region_held_drew (S := fun (V : World) => Below w.heap.size w V ∧ V.rangeAt N1 0 (acells h v l) ∧ V.rangeAt N2 0 (acells h' v' l')) (by kernel_rfl) ⟨HC6.out.drew, P6.out, Q6.out⟩ (fun hHeld => ?_)
 have hini : Below w.heap.size w w6.drew ∧ w6.drew.rangeAt N1 0 (acells h v l) ∧ w6.drew.rangeAt N2 0 (acells h' v' l') := ⟨HC6.out.drew, P6.out, Q6.out⟩
 generalize w6.drew = v0 at *
 have HV0 := Lib.hid hini
 clear hini
 refine wpAnyH_take (i := 0) (v := .int .i64 0) rfl (by kernel_rfl) (by kernel_rfl) (by kernel_rfl) (fun _ _ _ h => h) (Or.inl ⟨by rfl, ?_⟩) (by assumption) ?_
 ·intro w' hSw
  first | (go_simp; done) | (go_simp; simp only [hB]; done) | rfl
 try simp only [Act.put, List.getElem_toArray, List.getElem_cons_succ, List.getElem_cons_zero, List.setIfInBounds_toArray, List.set_cons_zero, List.set_cons_succ]
 refine wpAnyH_take (i := 1) (v := .bool true) rfl (by kernel_rfl) (by kernel_rfl) (by kernel_rfl) (fun _ _ _ h => h) (Or.inl ⟨by rfl, ?_⟩) (by assumption) ?_
 ·intro w' hSw
  first | (go_simp; done) | (go_simp; simp only [hB]; done) | rfl
 try simp only [Act.put, List.getElem_toArray, List.getElem_cons_succ, List.getElem_cons_zero, List.setIfInBounds_toArray, List.set_cons_zero, List.set_cons_succ]
 refine wpAnyH_take (i := 2) (v := .bool true) rfl (by kernel_rfl) (by kernel_rfl) (by kernel_rfl) (fun _ _ _ h => h) (Or.inl ⟨by rfl, ?_⟩) (by assumption) ?_
 ·intro w' hSw
  first | (go_simp; done) | (go_simp; simp only [hB]; done) | rfl
 try simp only [Act.put, List.getElem_toArray, List.getElem_cons_succ, List.getElem_cons_zero, List.setIfInBounds_toArray, List.set_cons_zero, List.set_cons_succ]
 refine wpAnyH_take (i := 3) (v := .int .i64 0) rfl (by kernel_rfl) (by kernel_rfl) (by kernel_rfl) (fun _ _ _ h => h) (Or.inl ⟨by rfl, ?_⟩) (by assumption) ?_
 ·intro w' hSw
  first | (go_simp; done) | (go_simp; simp only [hB]; done) | rfl
 try simp only [Act.put, List.getElem_toArray, List.getElem_cons_succ, List.getElem_cons_zero, List.setIfInBounds_toArray, List.set_cons_zero, List.set_cons_succ]
 refine wpAnyH_take (i := 4) (v := .bool true) rfl (by kernel_rfl) (by kernel_rfl) (by kernel_rfl) (fun _ _ _ h => h) (Or.inl ⟨by rfl, ?_⟩) (by assumption) ?_
 ·intro w' hSw
  first | (go_simp; done) | (go_simp; simp only [hB]; done) | rfl
 try simp only [Act.put, List.getElem_toArray, List.getElem_cons_succ, List.getElem_cons_zero, List.setIfInBounds_toArray, List.set_cons_zero, List.set_cons_succ]
 refine wpAnyH_take (i := 5) (v := .bool true) rfl (by kernel_rfl) (by kernel_rfl) (by kernel_rfl) (fun _ _ _ h => h) (Or.inl ⟨by rfl, ?_⟩) (by assumption) ?_
 ·intro w' hSw
  first | (go_simp; done) | (go_simp; simp only [hB]; done) | rfl
 try simp only [Act.put, List.getElem_toArray, List.getElem_cons_succ, List.getElem_cons_zero, List.setIfInBounds_toArray, List.set_cons_zero, List.set_cons_succ]
 refine wpAnyH_take (i := 6) (v := .bool true) rfl (by kernel_rfl) (by kernel_rfl) (by kernel_rfl) (fun _ _ _ h => h) (Or.inl ⟨by rfl, ?_⟩) (by assumption) ?_
 ·intro w' hSw
  first | (go_simp; done) | (go_simp; simp only [hB]; done) | rfl
 try simp only [Act.put, List.getElem_toArray, List.getElem_cons_succ, List.getElem_cons_zero, List.setIfInBounds_toArray, List.set_cons_zero, List.set_cons_succ]
 refine wpAnyH_take (i := 7) (v := .string J1) rfl (by kernel_rfl) (by kernel_rfl) (by kernel_rfl) (fun _ _ _ h => h) (Or.inl ⟨by rfl, ?_⟩) (by assumption) ?_
 ·intro w' hSw
  first | (go_simp; done) | (go_simp; simp only [hB]; done) | rfl
 try simp only [Act.put, List.getElem_toArray, List.getElem_cons_succ, List.getElem_cons_zero, List.setIfInBounds_toArray, List.set_cons_zero, List.set_cons_succ]
 refine wpAnyH_take (i := 8) (v := .string J2) rfl (by kernel_rfl) (by kernel_rfl) (by kernel_rfl) (fun _ _ _ h => h) (Or.inl ⟨by rfl, ?_⟩) (by assumption) ?_
 ·intro w' hSw
  first | (go_simp; done) | (go_simp; simp only [hB]; done) | rfl
 try simp only [Act.put, List.getElem_toArray, List.getElem_cons_succ, List.getElem_cons_zero, List.setIfInBounds_toArray, List.set_cons_zero, List.set_cons_succ]
 refine wpAnyH_take (i := 9) (v := .bool B) rfl (by kernel_rfl) (by kernel_rfl) (by kernel_rfl) (fun _ _ _ h => h) (Or.inl ⟨by rfl, ?_⟩) (by assumption) ?_
 ·intro w' hSw
  first | (go_simp; done) | (go_simp; simp only [hB]; done) | rfl
 try simp only [Act.put, List.getElem_toArray, List.getElem_cons_succ, List.getElem_cons_zero, List.setIfInBounds_toArray, List.set_cons_zero, List.set_cons_succ]
 refine wpAnyH_take (i := 10) (v := .agg #[.int .u8 h.h.k, .int .u8 h.h.op, .int .i64 h.h.pl, .int .i64 h.h.n, .string h.h.name, .string h.h.arg, .string h.h.exn, .int .i64 h.rho, .slice v.ra h.rhos.length v.rc, .slice v.ea h.e.length v.ec, .int .u8 h.ty.h.k, .int .i64 h.ty.h.r, .slice v.tea h.ty.h.e.length v.tec, .slice v.tka h.ty.ks.length v.tkc, .int .u8 h.re.h.k, .int .i64 h.re.h.r, .slice v.sea h.re.h.e.length v.sec, .slice v.ska h.re.ks.length v.skc, .slice v.ka l v.kc]) rfl (by kernel_rfl) (by kernel_rfl) (by kernel_rfl) (fun _ _ _ h => h) (Or.inl ⟨by rfl, ?_⟩) (by assumption) ?_
 ·intro w' hSw
  exact exec_at _ rfl N1 0 rfl hSw.2.1
 try simp only [Act.put, List.getElem_toArray, List.getElem_cons_succ, List.getElem_cons_zero, List.setIfInBounds_toArray, List.set_cons_zero, List.set_cons_succ]
 refine wpAnyH_take (i := 12) (v := .agg #[.int .u8 h'.h.k, .int .u8 h'.h.op, .int .i64 h'.h.pl, .int .i64 h'.h.n, .string h'.h.name, .string h'.h.arg, .string h'.h.exn, .int .i64 h'.rho, .slice v'.ra h'.rhos.length v'.rc, .slice v'.ea h'.e.length v'.ec, .int .u8 h'.ty.h.k, .int .i64 h'.ty.h.r, .slice v'.tea h'.ty.h.e.length v'.tec, .slice v'.tka h'.ty.ks.length v'.tkc, .int .u8 h'.re.h.k, .int .i64 h'.re.h.r, .slice v'.sea h'.re.h.e.length v'.sec, .slice v'.ska h'.re.ks.length v'.skc, .slice v'.ka l' v'.kc]) rfl (by kernel_rfl) (by kernel_rfl) (by kernel_rfl) (fun _ _ _ h => h) (Or.inl ⟨by rfl, ?_⟩) (by assumption) ?_
 ·intro w' hSw
  exact exec_at _ rfl N2 0 rfl hSw.2.2
 try simp only [Act.put, List.getElem_toArray, List.getElem_cons_succ, List.getElem_cons_zero, List.setIfInBounds_toArray, List.set_cons_zero, List.set_cons_succ]
 refine wpAnyH_ready (rs := [11]) (by kernel_rfl) (by simp) ?_
 refine AllReadyH.cons rfl (fun K hK => ?_) AllReadyH.nil
 have HK2 := Lib.hid hK
 clear hK
 try rw [if_pos (by rfl)]
 go_simp
 refine (HC1'.out _ HV0.out.1).mono ?_
 rintro en va ⟨q1, rfl, ha, hba⟩
 have HVa : Hid (Below w.heap.size w va ∧ va.rangeAt N1 0 (acells h v l) ∧ va.rangeAt N2 0 (acells h' v' l')) := Lib.hid ⟨below_then HV0.out.1 hba HV0.out.1.size, range_below HV0.out.2.1 hba, range_below HV0.out.2.2 hba⟩
 have HA1 := Lib.hid (at_reads ha (veil_readsA _ _))
 clear ha hba
 refine HK2.out _ _ HVa.out (fun hHeld => ?_)
 clear HK2
 try simp only [Act.put, List.getElem_toArray, List.getElem_cons_succ, List.getElem_cons_zero, List.setIfInBounds_toArray, List.set_cons_zero, List.set_cons_succ]
 clear K
 refine wpAnyH_ready (rs := [13]) (by kernel_rfl) (by simp) ?_
 refine AllReadyH.cons rfl (fun K hK => ?_) AllReadyH.nil
 have HK2 := Lib.hid hK
 clear hK
 try rw [if_pos (by rfl)]
 go_simp
 refine (HC2'.out _ HVa.out.1).mono ?_
 rintro en vb ⟨q2, rfl, ha, hba⟩
 have HVb : Hid (Below w.heap.size w vb ∧ vb.rangeAt N1 0 (acells h v l) ∧ vb.rangeAt N2 0 (acells h' v' l')) := Lib.hid ⟨below_then HVa.out.1 hba HVa.out.1.size, range_below HVa.out.2.1 hba, range_below HVa.out.2.2 hba⟩
 have HA2 := Lib.hid (at_reads ha (veil_readsA _ _))
 have HA3 := Lib.hid (HA1.out.below hba)
 clear ha hba
 refine HK2.out _ _ HVb.out (fun hHeld => ?_)
 clear HK2
 try simp only [Act.put, List.getElem_toArray, List.getElem_cons_succ, List.getElem_cons_zero, List.setIfInBounds_toArray, List.set_cons_zero, List.set_cons_succ]
 clear K
 refine wpAnyH_ready (rs := [14]) (by kernel_rfl) (by simp) ?_
 refine AllReadyH.cons rfl (fun K hK => ?_) AllReadyH.nil
 have HK2 := Lib.hid hK
 clear hK
 try rw [if_pos (by rfl)]
 go_simp
 refine (HSS.out q1 q2 vb HA3.out HA2.out).mono ?_
 rintro en vc ⟨rfl, hba⟩
 have HVc : Hid (Below w.heap.size w vc ∧ vc.rangeAt N1 0 (acells h v l) ∧ vc.rangeAt N2 0 (acells h' v' l')) := Lib.hid ⟨below_then HVb.out.1 hba HVb.out.1.size, range_below HVb.out.2.1 hba, range_below HVb.out.2.2 hba⟩
 clear hba
 refine HK2.out _ _ HVc.out (fun hHeld => ?_)
 clear HK2
 try simp only [Act.put, List.getElem_toArray, List.getElem_cons_succ, List.getElem_cons_zero, List.setIfInBounds_toArray, List.set_cons_zero, List.set_cons_succ]
 clear K
 refine wpAnyH_take (i := 15) (v := .bool true) rfl (by kernel_rfl) (by kernel_rfl) (by kernel_rfl) (fun _ _ _ h => h) (Or.inl ⟨by rfl, ?_⟩) (by assumption) ?_
 ·intro w' hSw
  first | (go_simp; done) | (go_simp; simp only [hB]; done) | rfl
 try simp only [Act.put, List.getElem_toArray, List.getElem_cons_succ, List.getElem_cons_zero, List.setIfInBounds_toArray, List.set_cons_zero, List.set_cons_succ]
 refine wpAnyH_take (i := 16) (v := .bool true) rfl (by kernel_rfl) (by kernel_rfl) (by kernel_rfl) (fun _ _ _ h => h) (Or.inl ⟨by rfl, ?_⟩) (by assumption) ?_
 ·intro w' hSw
  first | (go_simp; done) | (go_simp; simp only [hB]; done) | rfl
 try simp only [Act.put, List.getElem_toArray, List.getElem_cons_succ, List.getElem_cons_zero, List.setIfInBounds_toArray, List.set_cons_zero, List.set_cons_succ]
 refine wpAnyH_take (i := 17) (v := .bool true) rfl (by kernel_rfl) (by kernel_rfl) (by kernel_rfl) (fun _ _ _ h => h) (Or.inl ⟨by rfl, ?_⟩) (by assumption) ?_
 ·intro w' hSw
  first | (go_simp; done) | (go_simp; simp only [hB]; done) | rfl
 try simp only [Act.put, List.getElem_toArray, List.getElem_cons_succ, List.getElem_cons_zero, List.setIfInBounds_toArray, List.set_cons_zero, List.set_cons_succ]
 refine wpAnyH_ready (rs := [18]) (by kernel_rfl) (by simp) ?_
 refine AllReadyH.cons rfl (fun K hK => ?_) AllReadyH.nil
 have HK2 := Lib.hid hK
 clear hK
 try rw [if_pos (by rfl)]
 go_simp
 refine (HAW.out vc HVc.out.1).mono ?_
 rintro en vd ⟨rfl, hba⟩
 have HVd : Hid (Below w.heap.size w vd ∧ vd.rangeAt N1 0 (acells h v l) ∧ vd.rangeAt N2 0 (acells h' v' l')) := Lib.hid ⟨below_then HVc.out.1 hba HVc.out.1.size, range_below HVc.out.2.1 hba, range_below HVc.out.2.2 hba⟩
 clear hba
 refine HK2.out _ _ HVd.out (fun hHeld => ?_)
 clear HK2
 try simp only [Act.put, List.getElem_toArray, List.getElem_cons_succ, List.getElem_cons_zero, List.setIfInBounds_toArray, List.set_cons_zero, List.set_cons_succ]
 clear K
 refine wpAnyH_take (i := 19) (v := .bool true) rfl (by kernel_rfl) (by kernel_rfl) (by kernel_rfl) (fun _ _ _ h => h) (Or.inl ⟨by rfl, ?_⟩) (by assumption) ?_
 ·intro w' hSw
  first | (go_simp; done) | (go_simp; simp only [hB]; done) | rfl
 try simp only [Act.put, List.getElem_toArray, List.getElem_cons_succ, List.getElem_cons_zero, List.setIfInBounds_toArray, List.set_cons_zero, List.set_cons_succ]
 refine wpAnyH_ready (rs := [20]) (by kernel_rfl) (by simp) ?_
 refine AllReadyH.cons rfl (fun K hK => ?_) AllReadyH.nil
 have HK2 := Lib.hid hK
 clear hK
 try rw [if_pos (by rfl)]
 go_simp
 refine HK2.out _ _ HVd.out (fun hHeld => ?_)
 clear HK2
 try simp only [Act.put, List.getElem_toArray, List.getElem_cons_succ, List.getElem_cons_zero, List.setIfInBounds_toArray, List.set_cons_zero, List.set_cons_succ]
 clear K
 refine wpAnyH_done (by kernel_rfl) ?_ _
 clear hHeld
 go_wp2_with (fail)
 go_ret
 exact ⟨rfl, HVd.out.1⟩
end Disp
end Go.Proofs.YtkfkpjngiffamaaGreatDoor
namespace Go.Proofs.YtkfkpjngiffamaaGreatDoor
open Go.RowKit Go.Maps Go.ChangeMaps Go.MapKept
set_option linter.unusedVariables false
set_option linter.unusedSimpArgs false
namespace Disp
open Types (jb bl jb_list)
open Aterm (tokR tok_inj zeroBool)

theorem sp_seen : ∀ b : UInt8, 33 ≤ b.toNat → Lib.isSp b = false := by
 intro b h
 unfold Lib.isSp
 have e : ∀ n : UInt8, n.toNat < 33 → (b == n) = false := fun n hn => by
  rw [beq_eq_false_iff_ne]
  rintro rfl
  omega
 rw [e 9 (by decide), e 10 (by decide), e 11 (by decide), e 12 (by decide), e 13 (by decide), e 32 (by decide)]
 rfl
theorem go_word : ∀ (x cur rest : List UInt8), (∀ b ∈ x, Lib.isSp b = false) → Lib.fieldsGo cur (x ++ rest) = Lib.fieldsGo (cur ++ x) rest
 | [], cur, rest, _ => by rw [List.nil_append, List.append_nil]
 | b :: x, cur, rest, h => by
  rw [List.cons_append, Lib.fieldsGo, h b List.mem_cons_self, if_neg Bool.false_ne_true, go_word x (cur ++ [b]) rest (fun c hc => h c (List.mem_cons_of_mem _ hc)), List.append_assoc]
  rfl
theorem go_tail : ∀ (l : List (List UInt8)) (cur : List UInt8), cur ≠ [] → (∀ x ∈ l, x ≠ [] ∧ ∀ b ∈ x, Lib.isSp b = false) → Lib.fieldsGo cur (Lib.joinTail [32] l) = cur :: l
 | [], cur, hc, _ => by
  have e : Lib.joinTail [32] [] = [] := rfl
  have hcf : cur.isEmpty = false := by cases cur; exact absurd rfl hc; rfl
  rw [e, Lib.fieldsGo, hcf]; rfl
 | x :: l, cur, hc, h => by
  have hx := h x List.mem_cons_self
  have hcf : cur.isEmpty = false := by cases cur; exact absurd rfl hc; rfl
  have e : Lib.joinTail [32] (x :: l) = 32 :: (x ++ Lib.joinTail [32] l) := by simp [Lib.joinTail]
  rw [e, Lib.fieldsGo, show Lib.isSp 32 = true from rfl, if_pos rfl, hcf, if_neg Bool.false_ne_true, go_word x [] _ hx.2, List.nil_append, go_tail l x hx.1 (fun y hy => h y (List.mem_cons_of_mem _ hy))]
theorem fields_jb {ws : List ByteArray} (h : ∀ w ∈ ws, Seen w) : Lib.fields (jb ws).data.toList = ws.map bl := by
 rw [jb_list]
 have hh : ∀ x ∈ ws.map bl, x ≠ [] ∧ ∀ b ∈ x, Lib.isSp b = false := fun x hx => by
  obtain ⟨w, hw, rfl⟩ := List.mem_map.1 hx
  exact ⟨(h w hw).1, fun b hb => sp_seen b ((h w hw).2 b hb).1⟩
 unfold Lib.fields
 show Lib.fieldsGo [] (Lib.join (ws.map bl) [32]) = ws.map bl
 generalize ws.map bl = l at hh
 cases l with
 | nil => rfl
 | cons x l =>
  have hx := hh x List.mem_cons_self
  rw [Lib.join_cons, go_word x [] _ hx.2, List.nil_append, go_tail l x hx.1 (fun y hy => hh y (List.mem_cons_of_mem _ hy))]
theorem fields_back (ws : List ByteArray) : (ws.map bl).map (fun l => Value.string ⟨l.toArray⟩) = ws.map Value.string := by
 rw [List.map_map]
 congr 1
theorem ascii_jb {ws : List ByteArray} (h : ∀ w ∈ ws, Seen w) : ∀ (j : Nat) b, (jb ws).data.toList[j]? = some b → b.toNat < 128 := by
 intro j b hb
 have hm : b ∈ (jb ws).data.toList := List.mem_of_getElem? hb
 rw [jb_list] at hm
 have key : ∀ l : List (List UInt8), (∀ x ∈ l, ∀ b ∈ x, b.toNat < 128) → ∀ b ∈ Lib.joinTail [32] l, b.toNat < 128 := fun l => by
  induction l with
  | nil => intro _ b hb; cases hb
  | cons x l ih =>
   intro hl b hb
   have e : Lib.joinTail [32] (x :: l) = 32 :: (x ++ Lib.joinTail [32] l) := by simp [Lib.joinTail]
   rw [e, List.mem_cons, List.mem_append] at hb
   rcases hb with rfl | hb | hb
   ·decide
   ·exact hl x List.mem_cons_self b hb
   ·exact ih (fun y hy => hl y (List.mem_cons_of_mem _ hy)) b hb
 have hall : ∀ x ∈ ws.map bl, ∀ b ∈ x, b.toNat < 128 := fun x hx b hb => by
  obtain ⟨w, hw, rfl⟩ := List.mem_map.1 hx
  exact ((h w hw).2 b hb).2
 have hm2 : b ∈ Lib.join (ws.map bl) [32] := hm
 generalize ws.map bl = l at hall hm2
 cases l with
 | nil => rw [Lib.join_nil] at hm2; cases hm2
 | cons x l =>
  rw [Lib.join_cons, List.mem_append] at hm2
  rcases hm2 with hm2 | hm2
  ·exact hall x List.mem_cons_self b hm2
  ·exact key l (fun y hy => hall y (List.mem_cons_of_mem _ hy)) b hm2

instance decMem (x : ByteArray) (l : List ByteArray) : Decidable (x ∈ l) := decidable_of_iff (l.any (fun y => decide (y = x)) = true) (by simp)
theorem strKeyed : Keyed Tryz.prog 9 := string_keyed Tryz.underlying9
theorem strKey_of {s : ByteArray} (h : s.size ≤ maxLen) : keyOf Tryz.prog 9 (.string s) = some (Lit.string s.data.toList) := by
 simp [keyOf, Tryz.underlying9, mapKey, h]
def SetS (w : World) (b : Nat) (met : List ByteArray) : Prop :=
 ∃ (n : Nat) (D : DataW Value), w.ownsMap Tryz.prog 9 tokR b n D ∧ n ≤ met.length ∧ ∀ x : ByteArray, x.size ≤ maxLen → ∀ z, D.atKey (.string x.data.toList) z = if x ∈ met then .held (.bool true) else z
theorem SetS.new (w : World) : SetS (w.alloc (.map #[] 0)) w.heap.size [] := ⟨0, _, World.ownsMap_made w _ _ _, Nat.le_refl _, fun x _ z => rfl⟩
theorem SetS.lt {w : World} {b : Nat} {met : List ByteArray} (h : SetS w b met) : b < w.heap.size := by obtain ⟨_, D, h, _⟩ := h; exact h.lt
theorem SetS.of_block {w w' : World} {b : Nat} {met : List ByteArray} (h : SetS w b met) (hb : w'.heap[b]? = w.heap[b]?) : SetS w' b met := by
 obtain ⟨n, D, ⟨es, clock, h1, h2⟩, k⟩ := h
 exact ⟨n, D, ⟨es, clock, hb.trans h1, h2⟩, k⟩
theorem SetS.below {w w' : World} {b : Nat} {met : List ByteArray} (h : SetS w b met) (hb : Below w.heap.size w w') : SetS w' b met := h.of_block (hb.block b h.lt)
theorem SetS.look {w : World} {b : Nat} {met : List ByteArray} (h : SetS w b met) {x : ByteArray} (hx : x.size ≤ maxLen) :
  (Instr.lookup 52 (.map (some b)) (.string x) false).run Tryz.prog w = .ok (.bool (decide (x ∈ met))) w := by
 obtain ⟨n, D, h, _, k⟩ := h
 obtain ⟨v, ps, hrun, hv⟩ := h.lookup strKeyed Tryz.underlying52 (zeroBool w) (zd := .held (.bool false)) (zp := []) rfl (strKey_of hx)
 rw [k x hx] at hv
 rw [hrun]
 by_cases hm : x ∈ met
 ·rw [if_pos hm] at hv; rw [tok_inj hv, decide_eq_true hm]
 ·rw [if_neg hm] at hv; rw [tok_inj hv, decide_eq_false hm]
theorem SetS.store {w : World} {b : Nat} {met : List ByteArray} (h : SetS w b met) (hn : met.length < maxLen) {x : ByteArray} (hx : x.size ≤ maxLen) :
  ∃ w', (Instr.mapUpdate 52 (.map (some b)) (.string x) (.bool true)).run Tryz.prog w = .ok () w' ∧ SetS w' b (met ++ [x]) ∧ w.grownBy w' (some b) ∧ w'.heap.size = w.heap.size := by
 obtain ⟨n, D, h, hl, k⟩ := h
 obtain ⟨w', hrun, h', ht'⟩ := h.store strKeyed Tryz.underlying52 (Nat.lt_of_le_of_lt hl hn) (d := .held (.bool true)) (ps := []) (strKey_of hx) rfl
 refine ⟨w', hrun, ⟨n + 1, _, h', by simp; exact hl, fun y hy z => ?_⟩, ht'.grown, ?_⟩
 ·by_cases e : y = x
  ·subst e
   rw [atKey_put_same h.isMap (show WideAt.IsKeyLit (Lit.string y.data.toList) from trivial), if_pos (by simp)]
  ·have hne : Lit.string y.data.toList ≠ Lit.string x.data.toList := fun he => e (Types.bytes_ext (Lit.string.inj he))
   rw [atKey_put_other hne, k y hy z]
   have hm : y ∈ met ++ [x] ↔ y ∈ met := by simp [e]
   by_cases hy2 : y ∈ met
   ·rw [if_pos hy2, if_pos (hm.2 hy2)]
   ·rw [if_neg hy2, if_neg (fun hh => hy2 (hm.1 hh))]
 ·obtain ⟨es, clock, es', clock', _, rfl⟩ := ht'
  simp [setBlock]
set_option maxRecDepth 100000 in
theorem wpList_ask {w : World} {ops : Array Oper} {rest : List Oper} {a : Act} {Q : Exit → Act → World → Prop} {ps : String} {ty : TypeId} {af : Array Edge} {m x v : Operand} (b : Nat) (met : List ByteArray) (y : ByteArray)
  (hm : a.eval m = .map (some b)) (hx : a.eval x = .string y) (hv : a.eval v = .bool true) (h : SetS w b met) (hn : met.length < maxLen) (hi : y.size ≤ maxLen)
  (hK : ∀ w', SetS w' b (met ++ [y]) → w.grownBy w' (some b) → w'.heap.size = w.heap.size → wpList Tryz.prog ops Q rest a w') :
  wpList Tryz.prog ops Q ({ dst := none, op := .mapUpdate 52 m x v, type := ty, pos := ps, after := af, guard := none } :: rest) a w := by
 refine wpList_plain rfl fun K' hK' => ?_
 obtain ⟨w', hrun, r1, r2, r3⟩ := h.store hn hi
 unfold Oper.wp
 clear h hn hi
 simp [execOp, hm, hx, hv, hrun, Result.andThen]
 exact hK' _ _ (hK w' r1 r2 r3)
end Disp
end Go.Proofs.YtkfkpjngiffamaaGreatDoor
namespace Go.Proofs.YtkfkpjngiffamaaGreatDoor
open Go.RowKit
set_option linter.unusedVariables false
set_option linter.unusedSimpArgs false
namespace Disp
open Effect (At AtOk AtsAt Rd RdI ofA ret_i64 ret_bool lt_of_block heap_alloc_new own_slice digs NumLaid textE)
open Aterm (AT Hd V AtIs HdIs Kids acells tget wt wts nodeB allT allK smallB Box box_of at_load exec_at range_below of_world atInfo)
open Rt (box_new below_then kw wAt wBang)
open Types (jb wInt wOpen wShut wStar wRef wArrow)
open Words (KwLaid)
open Types (jb_list bl)

def cntIn (ws l : List ByteArray) : Nat := l.countP fun x => decide (x ∈ ws)
def wordsOf (t : AT) : List ByteArray := if allT nodeB t = true then flatS (sx t) else []
theorem cntIn_nil (ws : List ByteArray) : cntIn ws [] = 0 := rfl
theorem cntIn_snoc (ws l : List ByteArray) (x : ByteArray) : cntIn ws (l ++ [x]) = cntIn ws l + if x ∈ ws then 1 else 0 := by
 unfold cntIn
 rw [List.countP_append, List.countP_singleton]
 simp
theorem cntIn_le (ws l : List ByteArray) : cntIn ws l ≤ l.length := List.countP_le_length
theorem words_text {t : AT} : textS t = jb (wordsOf t) := by
 unfold textS wordsOf
 by_cases h : allT nodeB t = true
 ·rw [if_pos h, if_pos h, text_flat h]
 ·rw [if_neg h, if_neg h]; rfl
theorem words_seen {t : AT} : ∀ x ∈ wordsOf t, Seen x := by
 unfold wordsOf
 by_cases h : allT nodeB t = true
 ·rw [if_pos h]; exact seen_flat (good_sx h)
 ·rw [if_neg h]; intro x hx; cases hx
theorem words_small {t : AT} (hs : allT smallB t = true) (hi : allT rngB t = true) (hw : wt t ≤ 500) : (textS t).size ≤ 661500000 ∧ (wordsOf t).length ≤ 31500000 := by
 unfold textS wordsOf
 by_cases h : allT nodeB t = true
 ·rw [if_pos h, if_pos h]; exact text_small h hs hi hw
 ·rw [if_neg h, if_neg h]; exact ⟨Nat.zero_le _, Nat.zero_le _⟩
theorem src_get {w : World} {p : Option Addr} {m c : Nat} {ts : List ByteArray} (h : Src w p m c ts) {j : Nat} (hj : j < m) : ∃ b o x, p = some ⟨b, o, none⟩ ∧ ts[j]? = some x ∧ w.cell? ⟨b, o + j, none⟩ = some (.string x) := by
 obtain ⟨hl, h⟩ := h
 rcases h with ⟨_, rfl, _⟩ | ⟨⟨b, o, s⟩, rfl, hc⟩
 ·omega
 ·have hx : ts[j]? = some (ts[j]'(by omega)) := List.getElem?_eq_getElem _
  have h1 := hc j (.string (ts[j]'(by omega))) (by rw [List.getElem?_map, hx]; rfl)
  have hs : s = none := by
   have h0 := hc 0 (.string (ts[0]'(by omega))) (by rw [List.getElem?_map, List.getElem?_eq_getElem (by omega)]; rfl)
   have h2 := World.cell?_spot h0
   unfold Addr.add at h2
   rw [if_pos rfl] at h2
   exact h2
  subst hs
  rw [Addr.add_lit] at h1
  exact ⟨b, o, _, rfl, hx, h1⟩
set_option maxRecDepth 100000 in
set_option maxHeartbeats 12800000 in
theorem count_walk (t : AT) (h : Hd) (v : V) (l : Nat) (ws : List ByteArray) (p : Option Addr) (n c : Nat) (w : World) (hT : AtIs w h v l t) (hw : wt t ≤ 500) (hs : allT smallB t = true) (hS : Src w p n c ws) (hn : n ≤ 1000000) (hnc : n ≤ c ∧ c ≤ maxLen) (hsz : ∀ x ∈ ws, x.size ≤ maxLen) (hla : Laid w) (hfl : FldLaid w) :
  Calls Tryz.prog 12 #[.agg #[.int .u8 h.h.k, .int .u8 h.h.op, .int .i64 h.h.pl, .int .i64 h.h.n, .string h.h.name, .string h.h.arg, .string h.h.exn, .int .i64 h.rho, .slice v.ra h.rhos.length v.rc, .slice v.ea h.e.length v.ec, .int .u8 h.ty.h.k, .int .i64 h.ty.h.r, .slice v.tea h.ty.h.e.length v.tec, .slice v.tka h.ty.ks.length v.tkc, .int .u8 h.re.h.k, .int .i64 h.re.h.r, .slice v.sea h.re.h.e.length v.sec, .slice v.ska h.re.ks.length v.skc, .slice v.ka l v.kc], .slice p n c] w fun e w' => e = .returned (.int .i64 (cntIn ws (wordsOf t) : Nat)) ∧ Below w.heap.size w w' := by
 have hlen := hS.1
 have hrng := at_rng hT
 obtain ⟨hts, hwl⟩ := words_small hs hrng hw
 have htx := fun (W : World) (hb : Below w.heap.size w W) => text_walk t h v l W (hT.below hb) hw hs (hla.kw.below hb) (hla.num.below hb) (hla.sg.below hb)
 have hfd := fun (W : World) (hb : Below w.heap.size w W) => Tryz.strings_Fields (textS t) W (by omega) (by rw [words_text]; exact ascii_jb words_seen) (hfl.below hb)
 have hsrc := fun (W : World) (hb : Below w.heap.size w W) (j : Nat) (hj : j < n) => src_get (hS.below hb) hj
 have hfe : Lib.fields (textS t).data.toList = (wordsOf t).map Types.bl := by rw [words_text]; exact fields_jb words_seen
 have hxs : ∀ x ∈ wordsOf t, x.size ≤ maxLen := fun x hx => by
  have h2 : (jb (wordsOf t)).size = (Lib.join ((wordsOf t).map (·.data.toList)) [32]).length := by rw [← jb_list]; rfl
  rw [words_text] at hts
  have h3 : x.size ≤ (jb (wordsOf t)).size := by
   obtain ⟨a, b, e⟩ := List.append_of_mem hx
   have := Rt.jb_part (a := a) (b := [x]) (c := b)
   rw [Types.jb_one] at this
   rw [e, show a ++ x :: b = a ++ [x] ++ b by simp]
   exact this
  unfold maxLen
  omega
 simp only [hfe, fields_back, List.length_map] at hfd
 have HTX := Lib.hid htx; have HFD := Lib.hid hfd; have HSR := Lib.hid hsrc; have HLEN := Lib.hid hlen; have HSZ := Lib.hid hsz; have HXS := Lib.hid hxs; have HWL := Lib.hid hwl
 have hcl : c ≤ 9223372036854775807 := hnc.2
 have hcq := hnc.1
 clear htx hfd hsrc hlen hsz hT hw hs hS hla hfl hrng hts hwl hfe hxs hnc
 generalize wordsOf t = L at *
 have hmm := @run_makeMap Tryz.prog
 go_enter Tryz.func12, Tryz.ntmps12
 go_upto_region 1 with (fail)
 refine of_world (F := fun V => Below w.heap.size w V ∧ V.rangeAt w.heap.size 0 (acells h v l)) ⟨box_new _, Aterm.row_new rfl⟩ ?_
 rintro W0 ⟨hb0, hr0⟩
 have hN1 : w.heap.size < W0.heap.size := World.block_lt_of_cell? W0 ⟨w.heap.size, 0, none⟩ (hr0 0 _ rfl)
 generalize hNN : w.heap.size = N1 at hr0 hN1 ⊢
 have HC0 := Lib.hid hb0; have HR0 := Lib.hid hr0; have HN1 := Lib.hid hN1
 have HB1 := Lib.hid (below_then hb0 (box_new (.map #[] 0)) hb0.size); have HR1 := Lib.hid (range_below hr0 (box_new (.map #[] 0)))
 have HSET := Lib.hid (SetS.new W0)
 clear hb0 hr0 hN1
 have HNN := Lib.hid hNN
 clear hNN
 generalize hM : W0.heap.size = M at *
 go_wp2_with (fail)
 go_loopw [7, 16] (fun _ i wr => ∃ j : Nat, j ≤ n ∧ i = .int .i64 (j : Int) ∧ Hid (SetS wr M (ws.take j)) ∧ Hid (Below w.heap.size w wr) ∧ Hid (wr.rangeAt N1 0 (acells h v l))) (fun _ i _ => n - (intOf i).toNat)
 case atStart => exact ⟨0, Nat.zero_le _, rfl, Lib.hid (by rw [List.take_zero]; exact HSET.out), HB1, HR1⟩
 case round =>
  obtain ⟨j, hj, rfl, HST, HBJ, HRJ⟩ := hrel
  by_cases hlt : j < n
  ·obtain ⟨b, o, x, hp, hx, hc⟩ := HSR.out wr HBJ.out j hlt
   subst hp
   have hxz := HSZ.out x (List.mem_of_getElem? hx)
   have htk : ws.take (j + 1) = ws.take j ++ [x] := by rw [List.take_add_one, hx]; rfl
   have HXZ := Lib.hid hxz; have HTK := Lib.hid htk
   have HTL := Lib.hid (show (ws.take j).length < maxLen by rw [List.length_take]; unfold maxLen; omega)
   clear hx hxz htk
   go_wp2_with (refine wpList_ask M (ws.take j) x rfl rfl rfl HST.out HTL.out HXZ.out ?_; intro w2 hs2 hg2 hz2; have HS2 := Lib.hid hs2; have HB2 := Lib.hid (HBJ.out.grown hg2 HBJ.out.size (fun k hk => by have := Option.some.inj hk; have := HN1.out; have := HNN.out; omega)); have HR2 := Lib.hid (show w2.rangeAt N1 0 (acells h v l) from fun q u hu => (World.cell?_of_block (w := wr) (hg2.block N1 (World.block_lt_of_cell? wr _ (HRJ.out q u hu)) (fun e => by have := Option.some.inj e; have := HN1.out; omega))).trans (HRJ.out q u hu)); clear hs2 hg2 hz2)
   go_roundw
   case rel => exact ⟨j + 1, by omega, by go_num, Lib.hid (by rw [HTK.out]; exact HS2.out), HB2, HR2⟩
   case measure => simp [intOf]; omega
  ·obtain rfl : j = n := by omega
   have hst := HST.out
   rw [List.take_of_length_le (by rw [HLEN.out]; exact Nat.le_refl _)] at hst
   have HS1 := Lib.hid hst
   clear hst HST
   go_wp2_with (refine at_load rfl _ rfl N1 0 rfl HRJ.out ?_)
   refine (HTX.out wr HBJ.out).mono ?_
   rintro e w3 ⟨rfl, hb3⟩
   have HB3 := Lib.hid (below_then HBJ.out hb3 HBJ.out.size); have HS3 := Lib.hid (HS1.out.below hb3)
   clear hb3
   go_wp2_with (fail)
   refine (HFD.out w3 HB3.out).mono ?_
   rintro e w4 ⟨rfl, hw4⟩
   have hb4 : Below w3.heap.size w3 w4 := by rw [hw4]; exact box_new _
   have hcell : ∀ (i : Nat) x, L[i]? = some x → w4.cell? ⟨w3.heap.size, i, none⟩ = some (.string x) := fun i x hx => by
    rw [hw4]
    simp only [World.cell?, heap_alloc_new]
    simp [hx]
   have HB4 := Lib.hid (below_then HB3.out hb4 HB3.out.size); have HS4 := Lib.hid (HS3.out.below hb4); have HCE := Lib.hid hcell
   clear hw4 hb4 hcell
   generalize w3.heap.size = G at *
   have hL31 : (L.length : Int) ≤ 31500000 := by have := HWL.out; omega
   go_wp2_with (fail)
   go_loopw [10, 12, 31] (fun k _ i wr => ∃ j : Nat, j ≤ L.length ∧ i = .int .i64 (j : Int) ∧ k = .int .i64 (cntIn ws (L.take j) : Nat) ∧ wr = w4) (fun _ _ i _ => L.length - (intOf i).toNat)
   case atStart => exact ⟨0, Nat.zero_le _, rfl, by rw [List.take_zero, cntIn_nil]; rfl, rfl⟩
   case round =>
    obtain ⟨j, hj, rfl, rfl, rfl⟩ := hrel
    by_cases hlt : j < L.length
    ·have hx := List.getElem?_eq_getElem hlt
     have hc := HCE.out j _ hx
     have hxz := HXS.out L[j] (List.getElem_mem hlt)
     have htk : cntIn ws (L.take (j + 1)) = cntIn ws (L.take j) + if L[j] ∈ ws then 1 else 0 := by rw [List.take_add_one, hx]; exact cntIn_snoc _ _ _
     have hle := cntIn_le ws (L.take j)
     rw [List.length_take] at hle
     have hlk := HS4.out.look hxz
     generalize L[j] = x at *
     have HTK := Lib.hid htk
     have hk0 : (cntIn ws (L.take j) : Int) ≤ 31500000 := by omega
     clear hx hxz htk hle
     generalize cntIn ws (L.take j) = q at *
     by_cases hin : x ∈ ws
     ·rw [decide_eq_true hin] at hlk
      have HI := Lib.hid hin
      clear hin
      go_wp2_with (fail)
      go_roundw
      case rel => exact ⟨j + 1, by omega, by go_num, by rw [HTK.out, if_pos HI.out]; go_num, trivial⟩
      case measure => simp [intOf]; omega
     ·rw [decide_eq_false hin] at hlk
      have HI := Lib.hid hin
      clear hin
      go_wp2_with (fail)
      go_roundw
      case rel => exact ⟨j + 1, by omega, by go_num, by rw [HTK.out, if_neg HI.out, Nat.add_zero], trivial⟩
      case measure => simp [intOf]; omega
    ·obtain rfl : j = L.length := by omega
     have HQ := Lib.hid (show cntIn ws (L.take L.length) = cntIn ws L by rw [List.take_length])
     go_wp2_with (fail)
     go_ret
     exact ⟨ret_i64 (show ((cntIn ws (L.take L.length) : Nat) : Int) = (cntIn ws L : Nat) by rw [HQ.out]), HB4.out⟩
end Disp
end Go.Proofs.YtkfkpjngiffamaaGreatDoor
