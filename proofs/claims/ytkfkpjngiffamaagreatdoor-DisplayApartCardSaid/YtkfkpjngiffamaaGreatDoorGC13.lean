import Derived.Test.YtkfkpjngiffamaaGreatDoorGC12
import Derived.Test.YtkfkpjngiffamaaGreatDoorGC09
import Derived.Laws.CopyRow
import Derived.Laws.MakeOwn
import Derived.Shelf.Bits.Mul64
import Derived.StillTailTactics
import Derived.IntWalk
import Derived.Deep.Cut
import Derived.Deep.CutRange
import Derived.StillTactics
import Derived.Deep.RegionLaw
import Derived.Deep.MidRow
import Derived.Test.YtkfkpjngiffamaaGreatDoorGC00
namespace Go.Proofs.YtkfkpjngiffamaaGreatDoor
open Go.RowKit Go.Maps
set_option linter.unusedVariables false
set_option linter.unusedSimpArgs false
namespace Aterm
open Effect (RdI nget nget_at nget_mem ret_bool lt_of_block heap_alloc_new)
open Rt (box_new box_at below_then)

def ApP (Na M : Nat) (k : Nat) (_ : Option Obj) : Prop := k = Na ∨ k = M
structure ApAt (w0 : World) (Nm Na M : Nat) (s : List Int × Option Int) (W : World) : Prop where
 map : W.heap[Nm]? = some (.cells #[.map (some M)] 138 (0, 0))
 at_ : W.heap[Na]? = some (.cells #[.int .i64 (s.2.getD 0)] 3 (0, 0))
 set : SetAt W M s.1
 ne1 : Na ≠ M
 ne2 : Nm ≠ Na
 ne3 : Nm ≠ M
 low1 : w0.heap.size ≤ Na
 low2 : w0.heap.size ≤ M
theorem ApAt.below {w0 : World} {Nm Na M : Nat} {s : List Int × Option Int} {W W' : World} (h : ApAt w0 Nm Na M s W) (hb : Below W.heap.size W W') : ApAt w0 Nm Na M s W' :=
 ⟨(hb.block _ (lt_of_block h.map)).trans h.map, (hb.block _ (lt_of_block h.at_)).trans h.at_, h.set.below hb, h.ne1, h.ne2, h.ne3, h.low1, h.low2⟩
theorem ApAt.meet {w0 : World} {Nm Na M : Nat} {met : List Int} {x : Int} {o : Option Int} {W W' : World} (h : ApAt w0 Nm Na M (met, o) W) (hs : SetAt W' M (met ++ [x])) (hg : W.grownBy W' (some M)) : ApAt w0 Nm Na M (met ++ [x], o) W' :=
 ⟨(hg.block _ (lt_of_block h.map) (fun e => h.ne3 (Option.some.inj e))).trans h.map, (hg.block _ (lt_of_block h.at_) (fun e => h.ne1 (Option.some.inj e))).trans h.at_, hs, h.ne1, h.ne2, h.ne3, h.low1, h.low2⟩
theorem ApAt.again {w0 : World} {Nm Na M : Nat} {met : List Int} {o : Option Int} {W : World} (h : ApAt w0 Nm Na M (met, o) W) (pl : Int) : ApAt w0 Nm Na M (met, some pl) (W.setCell ⟨Na, 0, none⟩ (.int .i64 pl)) ∧ Tch (ApP Na M) W (W.setCell ⟨Na, 0, none⟩ (.int .i64 pl)) := by
 have ho : ∀ k, k ≠ Na → (W.setCell ⟨Na, 0, none⟩ (.int .i64 pl)).heap[k]? = W.heap[k]? := fun k hk => Below.heap_setCell _ _ _ _ hk
 refine ⟨⟨(ho _ h.ne2).trans h.map, ?_, h.set.of_block (ho _ (fun e => h.ne1 e.symm)), h.ne1, h.ne2, h.ne3, h.low1, h.low2⟩, ⟨rfl, rfl, rfl, by simp [World.setCell], fun k _ hn => ho k (fun e => hn (.inl e))⟩⟩
 simp [World.setCell, Array.getElem?_modify, h.at_]
theorem Tch.meets {Na M : Nat} {W W' : World} (hg : W.grownBy W' (some M)) : Tch (ApP Na M) W W' := ⟨hg.os, hg.tape, hg.output, hg.size, fun k hk hn => hg.block k hk (fun e => hn (.inr (Option.some.inj e)))⟩
def ApI (w0 : World) (Nm Na M : Nat) (r : Nat) (s : List Int × Option Int) (W : World) : Prop := ApAt w0 Nm Na M s W ∧ s.1.length + 100 * r ≤ 1000000000
def fewB (h : Hd) (_ : Nat) : Bool := decide (h.rhos.length ≤ 50)
theorem ApI.goes {w0 : World} {Nm Na M : Nat} (h1 : w0.heap.size ≤ Na) (h2 : w0.heap.size ≤ M) : Goes w0 (ApP Na M) (ApI w0 Nm Na M) where
 low := fun k O hk h => by rcases h with h | h <;> omega
 new := fun r s W h cs fz hp => by
  have e1 := lt_of_block h.1.at_
  have e2 := h.1.set.lt
  rcases hp with hp | hp <;> omega
 keep := fun r s W W' h hb => ⟨h.1.below hb, h.2⟩
 less := fun r r' s W h hr => ⟨h.1, by have := h.2; omega⟩
theorem own_few {h : Hd} {n : Nat} (hf : fewB h n = true) : (ownH h).length ≤ 50 := by
 have hf' : h.rhos.length ≤ 50 := of_decide_eq_true hf
 unfold ownH
 split
 ·simp
 ·split
  ·exact hf'
  ·simp
theorem metI_le : ∀ (xs met : List Int), (metI met xs).length ≤ met.length + xs.length
 | [], met => by rw [metI]; exact Nat.le_refl _
 | x :: xs, met => by
  rw [metI]
  split
  ·simp
  ·have := metI_le xs (met ++ [x])
   simp at this ⊢
   omega
theorem met_step {own : List Int} {j : Nat} (hj : j < own.length) : own.drop j = nget own j :: own.drop (j + 1) := by
 rw [List.drop_eq_getElem_cons hj]
 have := nget_at hj
 rw [List.getElem?_eq_getElem hj] at this
 rw [Option.some.inj this]

set_option maxRecDepth 10000 in
set_option maxHeartbeats 6400000 in
theorem apart1_walk (w0 : World) (Nm Na M : Nat) : Steps 102 [.pointer (some ⟨Nm, 0, none⟩), .pointer (some ⟨Na, 0, none⟩)] apB apS fewB w0 (ApP Na M) (ApI w0 Nm Na M) := by
 intro r s W t h v l hi hT hC hb0
 obtain ⟨hA, hlen⟩ := hi
 have hS : apS s t = (metI s.1 (ownH h), if metO s.1 (ownH h) = true then some h.h.pl else s.2) := by unfold apS; rw [hT.head]
 have hB : apB s t = !metO s.1 (ownH h) := by unfold apB; rw [hT.head]
 have hof := own_few hC
 have hml := metI_le (ownH h) s.1
 have hbw := fun (W' : World) (hb : Below W.heap.size W W') => binds_walk t h v l w0 W' hT (below_then hb0 hb hb0.size)
 have hpl := hT.ok.hd.pl
 have HS := Lib.hid hS; have HBB := Lib.hid hB; have HBW := Lib.hid hbw; have HA := Lib.hid hA; have HB00 := Lib.hid hb0; have HML := Lib.hid hml
 have hfin : ∀ s' W', ApAt w0 Nm Na M s' W' → s'.1.length ≤ (metI s.1 (ownH h)).length → ApI w0 Nm Na M r s' W' := fun s' W' h1 h2 => ⟨h1, by omega⟩
 have HFIN := Lib.hid hfin; have HOF := Lib.hid hof; have HLEN := Lib.hid hlen
 clear hS hB hbw hA hb0 hT hC hml hfin hof hlen
 show Calls Tryz.prog 102 #[.agg #[.int .u8 h.h.k, .int .u8 h.h.op, .int .i64 h.h.pl, .int .i64 h.h.n, .string h.h.name, .string h.h.arg, .string h.h.exn, .int .i64 h.rho, .slice v.ra h.rhos.length v.rc, .slice v.ea h.e.length v.ec, .int .u8 h.ty.h.k, .int .i64 h.ty.h.r, .slice v.tea h.ty.h.e.length v.tec, .slice v.tka h.ty.ks.length v.tkc, .int .u8 h.re.h.k, .int .i64 h.re.h.r, .slice v.sea h.re.h.e.length v.sec, .slice v.ska h.re.ks.length v.skc, .slice v.ka l v.kc], .pointer (some ⟨Nm, 0, none⟩), .pointer (some ⟨Na, 0, none⟩)] W _
 go_enter Tryz.func102, Tryz.ntmps102
 go_upto_region 1 with (fail)
 obtain ⟨W0, hW0⟩ : ∃ W0, W0 = W.alloc (.cells #[.int .u8 h.h.k, .int .u8 h.h.op, .int .i64 h.h.pl, .int .i64 h.h.n, .string h.h.name, .string h.h.arg, .string h.h.exn, .int .i64 h.rho, .slice v.ra h.rhos.length v.rc, .slice v.ea h.e.length v.ec, .int .u8 h.ty.h.k, .int .i64 h.ty.h.r, .slice v.tea h.ty.h.e.length v.tec, .slice v.tka h.ty.ks.length v.tkc, .int .u8 h.re.h.k, .int .i64 h.re.h.r, .slice v.sea h.re.h.e.length v.sec, .slice v.ska h.re.ks.length v.skc, .slice v.ka l v.kc] 31) := ⟨_, rfl⟩
 have hbx : Box W0 W.heap.size h v l := by rw [hW0]; exact box_of (w := W) (h := h) (v := v) (l := l)
 have hb0 : Below W.heap.size W W0 := by rw [hW0]; exact box_new _
 rw [← hW0]
 clear hW0
 generalize hN0 : W.heap.size = N0 at hbx ⊢
 have HB0 := Lib.hid hb0; have HBX := Lib.hid hbx; have HRG := Lib.hid hbx.range
 obtain ⟨b0, b1, b2, b3, b4, b5, b6, b7, b8, b9, b10, b11, b12, b13, b14, b15, b16, b17, b18⟩ := hbx
 clear hb0 b0 b1 b2 b3 b4 b5 b6 b7 b8 b9 b10 b11 b12 b13 b14 b15 b16 b17 b18
 have hne : ¬ ApP Na M N0 W0.heap[N0]? := by
  have e1 := lt_of_block HA.out.at_
  have e2 := HA.out.set.lt
  intro hp
  rcases hp with hp | hp <;> omega
 have HNE := Lib.hid hne; have HN0 := Lib.hid hN0
 clear hne hN0
 go_wp2_with (refine at_load rfl _ rfl N0 0 rfl HRG.out ?_)
 refine (HBW.out _ HB0.out).mono ?_
 rintro e w1 ⟨p, n, c, rfl, hn, hrd, hb1, hor⟩
 have hcell : ∀ W', Tch (ApP Na M) w1 W' → ∀ j, j < (ownH h).length → ∃ b o, p = some ⟨b, o, none⟩ ∧ W'.cell? ⟨b, o + j, none⟩ = some (.int .i64 (nget (ownH h) j)) := by
  intro W' hW j hj
  obtain ⟨b, o, hp, hc⟩ := hrd.get j hj
  refine ⟨b, o, hp, ?_⟩
  have hlt := World.block_lt_of_cell? w1 _ hc
  have hnp : ¬ ApP Na M b w1.heap[b]? := by
   have e1 := lt_of_block HA.out.at_
   have e2 := HA.out.set.lt
   have e3 := HA.out.low1
   have e4 := HA.out.low2
   have e5 := HB0.out.size
   intro hq
   have hbig : b < w0.heap.size ∨ W0.heap.size ≤ b := by
    rcases hor with h0 | h0
    ·obtain ⟨b', o', hp', hc'⟩ := h0.get j hj
     rw [hp] at hp'
     injection hp' with hp'
     injection hp' with e6 e7
     subst e6
     exact .inl (World.block_lt_of_cell? w0 _ hc')
    ·exact .inr (h0 b o hp).1
   have hsz : W.heap.size ≤ W0.heap.size := e5
   rcases hq with hq | hq <;> rcases hbig with hb | hb <;> omega
  rw [World.cell?_of_block (w := w1) (a := ⟨b, o + j, none⟩) (hW.block b hlt hnp)]
  exact hc
 have hA1 : ApAt w0 Nm Na M s w1 := (HA.out.below HB0.out).below hb1
 have hrx := hrd.ok
 have HCELL := Lib.hid hcell; have HA1 := Lib.hid hA1; have HB1 := Lib.hid hb1; have HNN := Lib.hid hn; have HRX := Lib.hid hrx
 have HNE1 := Lib.hid (show ¬ ApP Na M N0 w1.heap[N0]? from HNE.out)
 have hnb : n ≤ 50 := by have := HOF.out; omega
 clear hcell hA1 hb1 hrd hor hn hrx
 go_wp2_with (fail)
 go_loopw [6, 10] (fun _ i wr => ∃ (j : Nat) (met : List Int), j ≤ n ∧ i = .int .i64 j ∧ Hid (ApAt w0 Nm Na M (met, s.2) wr) ∧ Hid (metO s.1 (ownH h) = metO met ((ownH h).drop j)) ∧ Hid (metI s.1 (ownH h) = metI met ((ownH h).drop j)) ∧ Hid (Tch (ApP Na M) w1 wr)) (fun _ i _ => n - (intOf i).toNat)
 case atStart => exact ⟨0, s.1, Nat.zero_le _, rfl, HA1, Lib.hid (by rw [List.drop_zero]), Lib.hid (by rw [List.drop_zero]), Lib.hid (Tch.refl _)⟩
 case round =>
  obtain ⟨j, met, hj, rfl, HAR, HMO, HMI, HT⟩ := hrel
  have HWR := Lib.hid ((Tch.of_below (P := ApP Na M) HB0.out).trans ((Tch.of_below HB1.out).trans HT.out))
  by_cases hlt : j < n
  ·have hjo : j < (ownH h).length := by rw [← HNN.out]; exact hlt
   obtain ⟨b, o, rfl, hc⟩ := HCELL.out wr HT.out j hjo
   have hx := HRX.out _ (nget_mem hjo)
   have hdr := met_step hjo
   have hmo := HMO.out; have hmi := HMI.out
   rw [hdr] at hmo hmi
   rw [metO] at hmo
   rw [metI] at hmi
   have hmet := metI_le ((ownH h).drop (j + 1)) (met ++ [nget (ownH h) j])
   have hml2 : met.length < 1000000000 ∨ met.contains (nget (ownH h) j) = true := by
    by_cases hc : met.contains (nget (ownH h) j) = true
    ·exact .inr hc
    ·rw [if_neg hc] at hmi
     left
     have h1 := HML.out; have h2 := HLEN.out; have h3 := HOF.out
     have hge : ∀ (xs m : List Int), m.length ≤ (metI m xs).length := by
      intro xs
      induction xs with
      | nil => intro m; rw [metI]; exact Nat.le_refl _
      | cons x xs ih => intro m; rw [metI]; split
                        ·exact Nat.le_refl _
                        ·have := ih (m ++ [x]); simp at this; omega
     have h4 := hge ((ownH h).drop (j + 1)) (met ++ [nget (ownH h) j])
     rw [← hmi] at h4
     simp at h4
     omega
   generalize hX : nget (ownH h) j = X at *
   have hlk := HAR.out.set.look hx
   have cm : wr.cell? ⟨Nm, 0, none⟩ = some (.map (some M)) := by simp [World.cell?, HAR.out.map]
   have ca : wr.cell? ⟨Na, 0, none⟩ = some (.int .i64 (s.2.getD 0)) := by simp [World.cell?, HAR.out.at_]
   have fa : wr.frozen? ⟨Na, 0, none⟩ = false := by simp [World.frozen?, HAR.out.at_]
   have hbx2 := (HT.out.box (HBX.out.below HB1.out) HNE1.out)
   obtain ⟨b0, b1, b2, b3, b4, b5, b6, b7, b8, b9, b10, b11, b12, b13, b14, b15, b16, b17, b18⟩ := hbx2
   clear b0 b1 b3 b4 b5 b6 b7 b8 b9 b10 b11 b12 b13 b14 b15 b16 b17 b18
   cases hq : met.contains X
   ·rw [hq] at hlk hmo hmi
    rw [if_neg Bool.false_ne_true] at hmi
    rw [Bool.false_or] at hmo
    have hn1 : met.length < maxLen := by rcases hml2 with h | h
                                         ·unfold maxLen; omega
                                         ·rw [hq] at h; cases h
    have HQ := Lib.hid hq; have HMO2 := Lib.hid hmo; have HMI2 := Lib.hid hmi; have HXX := Lib.hid hx; have HN1 := Lib.hid hn1
    clear hq hmo hmi hx hdr hmet hml2 hn1 hX ca fa b2
    go_wp2_with (refine wpList_meet M met X rfl rfl rfl HAR.out.set HN1.out HXX.out ?_; intro w2 hs2 hg2 hz2; have HA2 := Lib.hid (HAR.out.meet hs2 hg2); have HT2 := Lib.hid (HT.out.trans (Tch.meets hg2)); clear hs2 hg2 hz2)
    go_roundw
    case rel => exact ⟨j + 1, met ++ [X], by omega, by go_num, HA2, Lib.hid (HMO.out.trans (by rw [HMO.out] at HMO2; exact HMO2.out)), Lib.hid HMI2.out, HT2⟩
    case measure => simp [intOf]; omega
   ·rw [hq] at hlk hmo hmi
    rw [if_pos rfl] at hmi
    rw [Bool.true_or] at hmo
    have HMO2 := Lib.hid hmo; have HMI2 := Lib.hid hmi
    clear hq hmo hmi hx hdr hmet hml2 hX
    go_wp2_with (fail)
    go_ret
    have hag := HAR.out.again h.h.pl
    refine ⟨ret_bool (by rw [HBB.out, HMO2.out]; rfl), ?_, HWR.out.trans hag.2⟩
    rw [HS.out, HMO2.out, HMI2.out, if_pos rfl]
    exact HFIN.out _ _ hag.1 (by rw [HMI2.out]; exact Nat.le_refl _)
  ·obtain rfl : j = n := by omega
   have hdr : (ownH h).drop j = [] := List.drop_eq_nil_of_le (by rw [← HNN.out]; exact Nat.le_refl _)
   have hmo := HMO.out; have hmi := HMI.out
   rw [hdr] at hmo hmi
   rw [metO] at hmo
   rw [metI] at hmi
   have HMO2 := Lib.hid hmo; have HMI2 := Lib.hid hmi
   clear hmo hmi hdr
   go_wp2_with (fail)
   go_ret
   refine ⟨ret_bool (by rw [HBB.out, HMO2.out]; rfl), ?_, HWR.out⟩
   rw [HS.out, HMO2.out, HMI2.out, if_neg Bool.false_ne_true]
   exact HFIN.out _ _ HAR.out (by rw [HMI2.out]; exact Nat.le_refl _)
end Aterm
end Go.Proofs.YtkfkpjngiffamaaGreatDoor
namespace Go.Proofs.YtkfkpjngiffamaaGreatDoor
open Go.RowKit Go.Maps
set_option linter.unusedVariables false
set_option linter.unusedSimpArgs false
namespace Aterm
open Effect (RdI nget nget_at nget_mem ret_bool ret_i64 lt_of_block heap_alloc_new ofA)
open Rt (box_new box_at below_then)

set_option maxRecDepth 10000 in
set_option maxHeartbeats 3200000 in
theorem apart_walk (t : AT) (h : Hd) (v : V) (l : Nat) (w : World) (hT : AtIs w h v l t) (hw : wt t ≤ 100000) (hc : allT fewB t = true) :
  Calls Tryz.prog 83 #[.agg #[.int .u8 h.h.k, .int .u8 h.h.op, .int .i64 h.h.pl, .int .i64 h.h.n, .string h.h.name, .string h.h.arg, .string h.h.exn, .int .i64 h.rho, .slice v.ra h.rhos.length v.rc, .slice v.ea h.e.length v.ec, .int .u8 h.ty.h.k, .int .i64 h.ty.h.r, .slice v.tea h.ty.h.e.length v.tec, .slice v.tka h.ty.ks.length v.tkc, .int .u8 h.re.h.k, .int .i64 h.re.h.r, .slice v.sea h.re.h.e.length v.sec, .slice v.ska h.re.ks.length v.skc, .slice v.ka l v.kc]] w fun e w' => e = .returned (.tuple #[.int .i64 ((apartT t).getD 0), .bool (apartT t).isNone]) ∧ Below w.heap.size w w' := by
 have hfo := fo_apart t
 have hk1 : foK apB apS [t] ([], none) = foT apB apS t ([], none) := by
  rw [foK_cons]
  cases hq : (foT apB apS t ([], none)).1
  ·rw [if_neg Bool.false_ne_true, ← hq]
  ·rw [if_pos rfl, foK_nil, ← hq]
 have hcc : allK fewB [t] = true := by rw [allK_of1]; exact hc
 have HT := Lib.hid hT; have HFO := Lib.hid hfo; have HK1 := Lib.hid hk1; have HCC := Lib.hid hcc; have HWT := Lib.hid hw
 clear hT hfo hk1 hcc hc hw
 have hmm := @run_makeMap Tryz.prog
 go_enter Tryz.func83, Tryz.ntmps83
 go_upto_region 1 with (fail)
 obtain ⟨W0, hW0⟩ : ∃ W0, W0 = w.alloc (.cells #[.int .u8 h.h.k, .int .u8 h.h.op, .int .i64 h.h.pl, .int .i64 h.h.n, .string h.h.name, .string h.h.arg, .string h.h.exn, .int .i64 h.rho, .slice v.ra h.rhos.length v.rc, .slice v.ea h.e.length v.ec, .int .u8 h.ty.h.k, .int .i64 h.ty.h.r, .slice v.tea h.ty.h.e.length v.tec, .slice v.tka h.ty.ks.length v.tkc, .int .u8 h.re.h.k, .int .i64 h.re.h.r, .slice v.sea h.re.h.e.length v.sec, .slice v.ska h.re.ks.length v.skc, .slice v.ka l v.kc] 31) := ⟨_, rfl⟩
 have hbx : Box W0 w.heap.size h v l := by rw [hW0]; exact box_of (w := w) (h := h) (v := v) (l := l)
 have hb0 : Below w.heap.size w W0 := by rw [hW0]; exact box_new _
 rw [← hW0]
 clear hW0
 generalize hN0 : w.heap.size = N0 at hbx ⊢
 have HB0 := Lib.hid hb0; have HBX := Lib.hid hbx; have HRG := Lib.hid hbx.range
 obtain ⟨b0, b1, b2, b3, b4, b5, b6, b7, b8, b9, b10, b11, b12, b13, b14, b15, b16, b17, b18⟩ := hbx
 clear hb0 b0 b1 b2 b3 b4 b5 b6 b7 b8 b9 b10 b11 b12 b13 b14 b15 b16 b17 b18
 go_upto_region 2 with (fail)
 have hs1 : (W0.alloc (.map #[] 0)).heap.size = W0.heap.size + 1 := by simp
 have hs2 : ((W0.alloc (.map #[] 0)).alloc (.cells #[.int .i64 0] 3)).heap.size = W0.heap.size + 2 := by simp
 have hn2 := heap_alloc_new (W0.alloc (.map #[] 0)) (.cells #[.int .i64 0] 3)
 have hn3 := heap_alloc_new ((W0.alloc (.map #[] 0)).alloc (.cells #[.int .i64 0] 3)) (.cells #[.map (some W0.heap.size)] 138)
 rw [hs1] at hn2
 rw [hs2] at hn3
 have hlo := HB0.out.size
 have hA0 : ApAt w (W0.heap.size + 1 + 1) (W0.heap.size + 1) W0.heap.size ([], none) (((W0.alloc (.map #[] 0)).alloc (.cells #[.int .i64 0] 3)).alloc (.cells #[.map (some W0.heap.size)] 138)) :=
  ⟨hn3, ((box_new _).block _ (by omega)).trans hn2, ((SetAt.new W0).below (box_new _)).below (box_new _), by omega, by omega, by omega, by omega, hlo⟩
 have hb1 : Below W0.heap.size W0 (((W0.alloc (.map #[] 0)).alloc (.cells #[.int .i64 0] 3)).alloc (.cells #[.map (some W0.heap.size)] 138)) := ((box_new _).trans ((box_new _).mono (by omega))).trans ((box_new _).mono (by omega))
 generalize hW1 : ((W0.alloc (.map #[] 0)).alloc (.cells #[.int .i64 0] 3)).alloc (.cells #[.map (some W0.heap.size)] 138) = W1 at hA0 hb1 ⊢
 have hrg1 := range_below HRG.out hb1
 have hbw1 := below_then HB0.out hb1 hlo
 have HA0 := Lib.hid hA0; have HRG1 := Lib.hid hrg1; have HBW1 := Lib.hid hbw1
 clear hW1 hn2 hn3 hs1 hs2 hA0 hb1 hrg1 hbw1
 have hg := ApI.goes (w0 := w) (Nm := W0.heap.size + 1 + 1) (Na := W0.heap.size + 1) (M := W0.heap.size) (by omega) hlo
 have HG := Lib.hid hg
 clear hg
 go_wp2_with (refine at_load rfl _ rfl N0 0 rfl HRG1.out ?_)
 refine (allApart_walk apB apS fewB w (ApP (W0.heap.size + 1) W0.heap.size) (W0.heap.size + 1 + 1) (W0.heap.size + 1) (ApI w (W0.heap.size + 1 + 1) (W0.heap.size + 1) W0.heap.size) HG.out (apart1_walk w _ _ _) (wts [t]) [t] _ 1 1 0 ([], none) _ (Nat.le_refl _) rfl (by unfold maxLen; omega)
  (fun W hW => row_one HT.out (hW.range (row_new rfl) (fun h => by have e1 := lt_of_block HA0.out.at_; have e2 := HA0.out.set.lt; rcases h with h | h <;> omega))) (below_then HBW1.out (box_new _) HBW1.out.size) HCC.out ⟨HA0.out.below (box_new _), by have h1 := HWT.out; rw [wts_cons, wts_nil]; simp; omega⟩).mono ?_
 rintro e w2 ⟨rfl, hi, ht⟩
 rw [HK1.out] at hi
 have hat := hi.1.at_
 have hb2 : Below w.heap.size w w2 := ht.below HG.out.low (below_then HBW1.out (box_new _) HBW1.out.size) (Nat.le_refl _)
 rw [HFO.out.2] at hat
 have cA : w2.cell? ⟨W0.heap.size + 1, 0, none⟩ = some (.int .i64 ((apartT t).getD 0)) := by simp [World.cell?, hat]
 have HB2 := Lib.hid hb2
 clear hi ht hb2 hat
 rw [HK1.out, HFO.out.1]
 generalize hX : apartT t = X at *
 have HX := Lib.hid hX
 clear hX
 go_wp2_with (fail)
 go_ret2
 exact ⟨by rw [HX.out]; rfl, HB2.out⟩
end Aterm
end Go.Proofs.YtkfkpjngiffamaaGreatDoor
namespace Go.Proofs.YtkfkpjngiffamaaGreatDoor
open Go.RowKit
set_option linter.unusedVariables false
namespace Term

def Reads (w0 W : World) : Prop := ∀ a v, w0.cell? a = some v → W.cell? a = some v
theorem Reads.of_below {w0 W : World} (h : Below w0.heap.size w0 W) : Reads w0 W := fun a v hv => (h.cell (World.block_lt_of_cell? w0 _ hv)).trans hv
theorem Reads.trans {a b c : World} (h : Reads a b) (k : Reads b c) : Reads a c := fun x v hv => k x v (h x v hv)
def veil (P : Nat → Bool) (W : World) : World := { W with heap := W.heap.mapIdx fun i o => if P i = true then o else .cells #[] 0 }
theorem veil_at {P : Nat → Bool} {W : World} {b : Nat} (h : P b = true) : (veil P W).heap[b]? = W.heap[b]? := by
 unfold veil
 simp only [Array.getElem?_mapIdx]
 cases W.heap[b]? with
 | none => rfl
 | some o => simp [h]
theorem veil_seen {P : Nat → Bool} {W : World} {a : Addr} {v : Value} (h : (veil P W).cell? a = some v) : P a.block = true ∧ W.cell? a = some v := by
 cases hp : P a.block
 ·unfold World.cell? veil at h
  simp only [Array.getElem?_mapIdx] at h
  cases ho : W.heap[a.block]? with
  | none => rw [ho] at h; simp at h
  | some o => rw [ho] at h; simp [hp] at h
 ·exact ⟨rfl, by rw [← World.cell?_of_block (veil_at hp)]; exact h⟩
theorem veil_to {P P' : Nat → Bool} {W W' : World} (h : ∀ b, b < W.heap.size → P b = true → P' b = true ∧ W'.heap[b]? = W.heap[b]?) : Reads (veil P W) (veil P' W') := fun a v hv => by
 obtain ⟨hp, hw⟩ := veil_seen hv
 obtain ⟨h1, h2⟩ := h a.block (World.block_lt_of_cell? W _ hw) hp
 rw [World.cell?_of_block (veil_at h1), World.cell?_of_block h2]
 exact hw
theorem Kids.reads' {w W : World} {p : Option Addr} {ts : List Tm} (h : Kids w p ts) (hb : Reads w W) : Kids W p ts := by
 induction h with
 | nokids p => exact .nokids p
 | atkids b o ts q c hh hc hl hk ih => exact .atkids b o ts q c hh (fun i hi j v hv => hb _ _ (hc i hi j v hv)) hl (fun i hi => ih i hi)
theorem TmIs.reads' {w W : World} {h : Hd} {p : Option Addr} {l c : Nat} {t : Tm} (k : TmIs w h p l c t) (hb : Reads w W) : TmIs W h p l c t := ⟨k.head, k.len, k.ok, k.cap, k.kids.reads' hb⟩
theorem Flat.reads {w W : World} (hb : Reads w W) : ∀ {ts : List Tm} {xs : List Value}, Flat w xs ts → Flat W xs ts
 | [], xs, h => h
 | t :: ts, xs, ⟨q, c, zs, he, hT, h⟩ => ⟨q, c, zs, he, hT.reads' hb, h.reads hb⟩
theorem veil_own {P : Nat → Bool} {W : World} {B e size n : Nat} {v : Value} {xs : List Value} (h : W.ownsRow B e size v n xs) (hp : ∀ k, v.ownBlock = some k → P k = true) : (veil P W).ownsRow B e size v n xs := by
 refine ⟨h.1, h.2.imp id ?_⟩
 rintro ⟨g, cap, cur, rfl, hg, hh, r⟩
 exact ⟨g, cap, cur, rfl, hg, by rw [veil_at (hp g rfl)]; exact hh, r⟩
theorem kids_of_flat {W : World} {b : Nat} {xs : List Value} {ts : List Tm} (hc : ∀ j u, xs[j]? = some u → W.cell? ⟨b, j, none⟩ = some u) (hf : Flat W xs ts) : Kids W (some ⟨b, 0, none⟩) ts := by
 have each : ∀ i, ∃ r : Option Addr × Nat, i < ts.length → TmIs W (tget ts i).h r.1 (tget ts i).ks.length r.2 (tget ts i) ∧ ∀ j v, (tcells (tget ts i).h r.1 (tget ts i).ks.length r.2)[j]? = some v → xs[i * 8 + j]? = some v := by
  intro i
  by_cases hi : i < ts.length
  ·obtain ⟨q, c, h1, h2⟩ := hf.get i hi
   exact ⟨(q, c), fun _ => ⟨h1, h2⟩⟩
  ·exact ⟨(none, 0), fun h => absurd h hi⟩
 obtain ⟨R, hR⟩ := Classical.axiomOfChoice each
 refine .atkids b 0 ts (fun i => (R i).1) (fun i => (R i).2) (fun i hi => (hR i hi).1.ok) (fun i hi j v hv => ?_) (fun i hi => (hR i hi).1.cap) (fun i hi => (hR i hi).1.kids)
 rw [Nat.zero_add]
 exact hc _ _ ((hR i hi).2 j v hv)
end Term
end Go.Proofs.YtkfkpjngiffamaaGreatDoor
namespace Go.Proofs.YtkfkpjngiffamaaGreatDoor
open Go.RowKit
set_option linter.unusedVariables false
set_option linter.unusedSimpArgs false
namespace Aterm

theorem run_copy_wide {P : Program} {w : World} (dT sT ty elem : TypeId) (S : Nat) (hu : P.underlying dT = some (.slice elem)) (hsz : (P.info? elem).map (·.size) = some S)
  (g off dLen dCap : Nat) (ad : Addr) (sLen sCap : Nat) (cur : List Value) (t : TypeId) (hg : w.heap[g]? = some (.cells cur.toArray t (0, 0))) (cs : List Value) (n : Nat) (hn : Nat.min sLen dLen = n) (hcs : cs.length = n * S)
  (hsrc : ∀ j v, cs[j]? = some v → w.cell? (ad.add j) = some v) (hfit : off + cs.length ≤ cur.length) (h1 : ∀ v ∈ cs, v.oneCell' = true) :
  (Builtin.copy_ #[dT, sT] ty #[.slice (some ⟨g, off, none⟩) dLen dCap, .slice (some ad) sLen sCap]).run P w = .ok (.int .i64 n) (w.setRow g (cur.take off ++ cs ++ cur.drop (off + cs.length)).toArray) := by
 have hl := run_loadCells_list (P := P) w ad cs hsrc
 have hst := run_storeCells_at P g off t cs 0 cur.toArray w hg (by simpa using hfit) h1
 simp only [Nat.add_zero] at hst
 cases hq : P.info? elem with
 | none => simp [hq] at hsz
 | some i =>
  have hi : i.size = S := by simpa [hq] using hsz
  simp only [Builtin.copy_, Sem.run_bind, Sem.run_pure, Result.andThen_ok, run_underlying hu, Builtin.lenOf, hn, sizeOf, typeInfo, hq, hi, Builtin.firstCells, ← hcs, hl, List.getElem?_toArray, List.getElem?_cons_zero, List.getElem?_cons_succ]
  simp [hst, hu, run_underlying hu, hq, hi, hn, ← hcs, hl, Builtin.lenOf, Builtin.firstCells, sizeOf, typeInfo]
  rfl

set_option maxHeartbeats 1000000 in
theorem mul64_walk (x y : Nat) (hx : x < 18446744073709551616) (hy : y < 18446744073709551616) (w : World) :
  Calls Tryz.prog 115 #[.int .u64 x, .int .u64 y] w fun e w' => e = .returned (.tuple #[.int .u64 ((x * y / 18446744073709551616 : Nat) : Int), .int .u64 ((x * y % 18446744073709551616 : Nat) : Int)]) ∧ w' = w := by
 obtain ⟨bd, bt, bw, hhi⟩ := Lib.mul64_hi x y hx hy
 have ba := Lib.half_mul_le (a := x / 4294967296) (b := y / 4294967296) (by omega) (by omega)
 have bb := Lib.half_mul_le (a := x / 4294967296) (b := y % 4294967296) (by omega) (by omega)
 have bc := Lib.half_mul_le (a := x % 4294967296) (b := y / 4294967296) (by omega) (by omega)
 have ba' : x / 4294967296 * (y / 4294967296) < 18446744073709551616 := by omega
 have bb' : x / 4294967296 * (y % 4294967296) < 18446744073709551616 := by omega
 have bc' : x % 4294967296 * (y / 4294967296) < 18446744073709551616 := by omega
 have bh1 : x / 4294967296 * (y / 4294967296) + (x / 4294967296 * (y % 4294967296) + x % 4294967296 * (y % 4294967296) / 4294967296) / 4294967296 < 18446744073709551616 := by omega
 have bh : x / 4294967296 * (y / 4294967296) + (x / 4294967296 * (y % 4294967296) + x % 4294967296 * (y % 4294967296) / 4294967296) / 4294967296 + ((x / 4294967296 * (y % 4294967296) + x % 4294967296 * (y % 4294967296) / 4294967296) % 4294967296 + x % 4294967296 * (y / 4294967296)) / 4294967296 < 18446744073709551616 := by omega
 go_enter Tryz.func115, Tryz.ntmps115
 go_wp2
 simp only [Mul64.maskN x hx, Mul64.maskN y hy, Mul64.divN, Mul64.mulN, Mul64.addN, Mul64.wrapN _ bd, Mul64.wrapN _ bb', Mul64.wrapN _ bt, Mul64.maskN _ bt, Mul64.wrapN _ bc', Mul64.wrapN _ bw, Mul64.wrapN _ ba', Mul64.wrapN _ bh1, Mul64.wrapN _ bh, Mul64.wrapM (x * y)]
 rw [hhi]
 go_ret2
 exact ⟨rfl, rfl⟩
set_option maxHeartbeats 1000000 in
theorem mul_walk (x y : Nat) (hx : x < 18446744073709551616) (hy : y < 18446744073709551616) (w : World) :
  Calls Tryz.prog 96 #[.int .u64 x, .int .u64 y] w fun e w' => e = .returned (.tuple #[.int .u64 ((x * y / 18446744073709551616 : Nat) : Int), .int .u64 ((x * y % 18446744073709551616 : Nat) : Int)]) ∧ w' = w := by
 have c64 := Lib.hid (mul64_walk x y hx hy w)
 go_enter Tryz.func96, Tryz.ntmps96
 go_wp2_with (fail)
 refine c64.out.mono ?_
 rintro e w' ⟨rfl, hw⟩
 obtain rfl := hw.symm
 go_wp2
 go_ret2
 exact ⟨rfl, rfl⟩

theorem cells8t {W : World} {N : Nat} {a0 a1 a2 a3 a4 a5 a6 a7 : Value} {ty : TypeId} (h : W.heap[N]? = some (.cells #[a0, a1, a2, a3, a4, a5, a6, a7] ty (0, 0))) :
  (W.cell? ⟨N, 0, none⟩ = some a0 ∧ W.cell? ⟨N, 1, none⟩ = some a1 ∧ W.cell? ⟨N, 2, none⟩ = some a2 ∧ W.cell? ⟨N, 3, none⟩ = some a3 ∧ W.cell? ⟨N, 4, none⟩ = some a4 ∧ W.cell? ⟨N, 5, none⟩ = some a5 ∧ W.cell? ⟨N, 6, none⟩ = some a6 ∧ W.cell? ⟨N, 7, none⟩ = some a7) ∧
  (W.frozen? ⟨N, 0, none⟩ = false ∧ W.frozen? ⟨N, 1, none⟩ = false ∧ W.frozen? ⟨N, 2, none⟩ = false ∧ W.frozen? ⟨N, 3, none⟩ = false ∧ W.frozen? ⟨N, 4, none⟩ = false ∧ W.frozen? ⟨N, 5, none⟩ = false ∧ W.frozen? ⟨N, 6, none⟩ = false ∧ W.frozen? ⟨N, 7, none⟩ = false) := by
 simp [World.cell?, World.frozen?, h]
def num0 : Term.Hd := ⟨1, 0, 0, 0, ⟨#[]⟩, ⟨#[]⟩, ⟨#[]⟩⟩
def numT : Term.Tm := .node num0 []
def zero8 : Array Value := #[.int .u8 0, .int .u8 0, .int .i64 0, .int .i64 0, .string ⟨#[]⟩, .string ⟨#[]⟩, .string ⟨#[]⟩, .slice none 0 0]
def num8 : Array Value := #[.int .u8 1, .int .u8 0, .int .i64 0, .int .i64 0, .string ⟨#[]⟩, .string ⟨#[]⟩, .string ⟨#[]⟩, .slice none 0 0]
def layAt (n i : Nat) : Value := if i < n * 8 then num8[i % 8]! else zero8[i % 8]!
def lay (n m : Nat) : List Value := (List.range (m * 8)).map (layAt n)
def nums (k : Nat) : List Value := (List.range (k * 8)).map fun i => num8[i % 8]!
theorem lay_len (n m : Nat) : (lay n m).length = m * 8 := by simp [lay]
theorem nums_len (k : Nat) : (nums k).length = k * 8 := by simp [nums]
theorem lay_at {n m i : Nat} (h : i < m * 8) : (lay n m)[i]? = some (layAt n i) := by simp [lay, h]
theorem nums_at {k i : Nat} (h : i < k * 8) : (nums k)[i]? = some num8[i % 8]! := by simp [nums, h]
theorem lay_zero (m : Nat) : madeCells zero8 (m * 8) = (lay 0 m).toArray := by
 apply Array.toList_inj.1
 unfold madeCells lay
 rw [Array.toList_map, Array.toList_range]
 apply List.map_congr_left
 intro i _
 unfold layAt
 rw [if_neg (by omega)]
 rfl
theorem lay_step {n m k : Nat} (h : n + k ≤ m) : (lay n m).take (n * 8) ++ nums k ++ (lay n m).drop (n * 8 + (nums k).length) = lay (n + k) m := by
 rw [nums_len]
 apply List.ext_getElem?
 intro i
 have hl : ((lay n m).take (n * 8)).length = n * 8 := by rw [List.length_take, lay_len]; omega
 by_cases h1 : i < n * 8
 ·rw [List.append_assoc, List.getElem?_append_left (by omega), List.getElem?_take_of_lt h1, lay_at (by omega), lay_at (by omega)]
  unfold layAt
  rw [if_pos h1, if_pos (by omega)]
 ·by_cases h2 : i < n * 8 + k * 8
  ·rw [List.append_assoc, List.getElem?_append_right (by omega), hl, List.getElem?_append_left (by rw [nums_len]; omega), nums_at (by omega), lay_at (by omega)]
   unfold layAt
   rw [if_pos (by omega), show (i - n * 8) % 8 = i % 8 from by omega]
  ·rw [List.getElem?_append_right (by rw [List.length_append, hl, nums_len]; omega), List.length_append, hl, nums_len, List.getElem?_drop, show n * 8 + k * 8 + (i - (n * 8 + k * 8)) = i from by omega]
   by_cases h3 : i < m * 8
   ·rw [lay_at h3, lay_at h3]
    unfold layAt
    rw [if_neg h1, if_neg (by omega)]
   ·rw [List.getElem?_eq_none (by rw [lay_len]; omega), List.getElem?_eq_none (by rw [lay_len]; omega)]
theorem num8_one (i : Nat) : (num8[i % 8]!).oneCell' = true := by
 have h : i % 8 < 8 := Nat.mod_lt _ (by omega)
 generalize i % 8 = j at *
 match j, h with
 | 0, _ => rfl
 | 1, _ => rfl
 | 2, _ => rfl
 | 3, _ => rfl
 | 4, _ => rfl
 | 5, _ => rfl
 | 6, _ => rfl
 | 7, _ => rfl
theorem nums_one (k : Nat) : ∀ v ∈ nums k, v.oneCell' = true := by
 intro v hv
 unfold nums at hv
 obtain ⟨i, _, rfl⟩ := List.mem_map.1 hv
 exact num8_one i
theorem nums_src {W : World} {g n m k : Nat} {t : TypeId} (hg : W.heap[g]? = some (.cells (lay n m).toArray t (0, 0))) (hk : k ≤ n) (hm : n ≤ m) : ∀ j v, (nums k)[j]? = some v → W.cell? ((⟨g, 0, none⟩ : Addr).add j) = some v := by
 intro j v hv
 have hj : j < k * 8 := by
  rcases Nat.lt_or_ge j (k * 8) with h | h
  ·exact h
  ·rw [List.getElem?_eq_none (by rw [nums_len]; exact h)] at hv; cases hv
 rw [nums_at hj] at hv
 have h1 := lay_at (n := n) (m := m) (i := j) (by omega)
 unfold layAt at h1
 rw [if_pos (by omega), hv] at h1
 rw [Addr.add_lit]
 simpa [World.cell?, hg] using h1
theorem kids_lay {W : World} {g m : Nat} {t : TypeId} (hg : W.heap[g]? = some (.cells (lay m m).toArray t (0, 0))) : Term.Kids W (some ⟨g, 0, none⟩) (List.replicate m numT) := by
 have hget : ∀ i, i < m → Term.tget (List.replicate m numT) i = numT := fun i hi => by
  unfold Term.tget
  rw [List.getD_eq_getElem?_getD, List.getElem?_replicate, if_pos hi]
  rfl
 refine .atkids g 0 _ (fun _ => none) (fun _ => 0) (fun i hi => ?_) (fun i hi j v hv => ?_) (fun i hi => ?_) (fun i hi => ?_)
 all_goals
  rw [List.length_replicate] at hi
 ·rw [hget i hi]
  exact ⟨by decide, by decide, by decide, by decide, by unfold maxLen; decide, by unfold maxLen; decide, by unfold maxLen; decide⟩
 ·rw [hget i hi] at hv
  have hv' : (Term.tcells num0 none 0 0)[j]? = some v := hv
  have hj : j < 8 := by
   rcases Nat.lt_or_ge j 8 with h | h
   ·exact h
   ·rw [List.getElem?_eq_none (by simpa [Term.tcells] using h)] at hv'; cases hv'
  have h1 := lay_at (n := m) (m := m) (i := i * 8 + j) (by omega)
  unfold layAt at h1
  rw [if_pos (by omega), show (i * 8 + j) % 8 = j from by omega] at h1
  have h2 : num8[j]! = v := by
   match j, hj with
   | 0, _ => exact Option.some.inj hv'
   | 1, _ => exact Option.some.inj hv'
   | 2, _ => exact Option.some.inj hv'
   | 3, _ => exact Option.some.inj hv'
   | 4, _ => exact Option.some.inj hv'
   | 5, _ => exact Option.some.inj hv'
   | 6, _ => exact Option.some.inj hv'
   | 7, _ => exact Option.some.inj hv'
  rw [h2] at h1
  simpa [World.cell?, hg] using h1
 ·rw [hget i hi]
  unfold maxLen
  exact ⟨Nat.le_refl _, by omega⟩
 ·rw [hget i hi]
  exact .nokids _

theorem lt_block_new (w : World) (O : Obj) : (w.alloc O).heap[w.heap.size]? = some O := by
 show (w.heap.push O)[w.heap.size]? = some O
 rw [Array.getElem?_push]; simp
theorem run_copy_lay {P : Program} {w : World} (dT sT ty elem : TypeId) (hu : P.underlying dT = some (.slice elem)) (hsz : (P.info? elem).map (·.size) = some 8)
  (g off dLen dCap : Nat) (ad : Addr) (sLen sCap : Nat) (t : TypeId) (n m k : Nat)
  (hg : w.heap[g]? = some (.cells (lay n m).toArray t (0, 0))) (hoff : off = n * 8) (hk : Nat.min sLen dLen = k) (hnk : n + k ≤ m)
  (hsrc : ∀ j v, (nums k)[j]? = some v → w.cell? (ad.add j) = some v) :
  ∃ w', (Builtin.copy_ #[dT, sT] ty #[.slice (some ⟨g, off, none⟩) dLen dCap, .slice (some ad) sLen sCap]).run P w = .ok (.int .i64 k) w' ∧ w'.heap[g]? = some (.cells (lay (n + k) m).toArray t (0, 0)) ∧ Below g w w' := by
 subst hoff
 have h := run_copy_wide (P := P) (w := w) dT sT ty elem 8 hu hsz g (n * 8) dLen dCap ad sLen sCap (lay n m) t hg (nums k) k hk (nums_len k) hsrc (by rw [nums_len, lay_len]; omega) (nums_one k)
 rw [lay_step hnk] at h
 exact ⟨_, h, setRow_heap w g _ _ t _ hg, ⟨rfl, rfl, rfl, by simp [World.setRow], fun k hk => setRow_other w g k _ (by omega)⟩⟩
theorem copy_lay {P : Program} {w : World} {ops : Array Oper} {rest : List Oper} {o : Oper} {a : Act} {Q : Exit → Act → World → Prop} (hgd : o.guard = none) (d s : Operand) (dT sT : TypeId)
  (ho : o.op = .call { callee := .builtin .copy, args := #[d, s], argTypes := #[dT, sT] }) (elem : TypeId) (hu : P.underlying dT = some (.slice elem)) (hsz : (P.info? elem).map (·.size) = some 8)
  (g off dLen dCap : Nat) (ad : Addr) (sLen sCap : Nat) (hd : a.eval d = .slice (some ⟨g, off, none⟩) dLen dCap) (hs : a.eval s = .slice (some ad) sLen sCap) (t : TypeId) (n m k : Nat)
  (hg : w.heap[g]? = some (.cells (lay n m).toArray t (0, 0))) (hoff : off = n * 8) (hk : Nat.min sLen dLen = k) (hnk : n + k ≤ m)
  (hsrc : ∀ j v, (nums k)[j]? = some v → w.cell? (ad.add j) = some v)
  (h : ∀ w', w'.heap[g]? = some (.cells (lay (n + k) m).toArray t (0, 0)) → Below g w w' → wpList P ops Q rest (a.put o.dst (.int .i64 k)) w') : wpList P ops Q (o :: rest) a w := by
 refine wpList_plain hgd fun K hK => ?_
 obtain ⟨w', h1, h2, h3⟩ := run_copy_lay (P := P) (w := w) dT sT o.type elem hu hsz g off dLen dCap ad sLen sCap t n m k hg hoff hk hnk hsrc
 unfold Oper.wp
 simp only [execOp, ho, resolve, invoke, builtin, Sem.run_bind, Sem.run_pure, Result.andThen_ok, List.map_toArray, List.map_cons, List.map_nil, hd, hs, h1]
 exact hK _ _ (h w' h2 h3)
theorem step_copy_lay {P : Program} {ops : Array Oper} {o : Oper} {a : Act} {w : World} {K : Act → World → Prop} {Q : Exit → Act → World → Prop} {E : Prop} (hgd : o.guard = none) (d s : Operand) (dT sT : TypeId)
  (ho : o.op = .call { callee := .builtin .copy, args := #[d, s], argTypes := #[dT, sT] }) (elem : TypeId) (hu : P.underlying dT = some (.slice elem)) (hsz : (P.info? elem).map (·.size) = some 8)
  (g off dLen dCap : Nat) (ad : Addr) (sLen sCap : Nat) (hd : a.eval d = .slice (some ⟨g, off, none⟩) dLen dCap) (hs : a.eval s = .slice (some ad) sLen sCap) (t : TypeId) (n m k : Nat)
  (hg : w.heap[g]? = some (.cells (lay n m).toArray t (0, 0))) (hoff : off = n * 8) (hk : Nat.min sLen dLen = k) (hnk : n + k ≤ m)
  (hsrc : ∀ j v, (nums k)[j]? = some v → w.cell? (ad.add j) = some v)
  (h : ∀ w', w'.heap[g]? = some (.cells (lay (n + k) m).toArray t (0, 0)) → Below g w w' → K (a.put o.dst (.int .i64 k)) w') :
  if Region.wanted o (yielded ops a.tmps) = true then Oper.wp P o a w K Q else E := by
 have hw : Region.wanted o (yielded ops a.tmps) = true := by simp [Region.wanted, hgd]
 rw [if_pos hw]
 obtain ⟨w', h1, h2, h3⟩ := run_copy_lay (P := P) (w := w) dT sT o.type elem hu hsz g off dLen dCap ad sLen sCap t n m k hg hoff hk hnk hsrc
 unfold Oper.wp
 simp only [execOp, ho, resolve, invoke, builtin, Sem.run_bind, Sem.run_pure, Result.andThen_ok, List.map_toArray, List.map_cons, List.map_nil, hd, hs, h1]
 exact h w' h2 h3

set_option maxRecDepth 100000 in
set_option maxHeartbeats 3200000 in
theorem repeat_walk (g c m : Nat) (w : World) (hm : m ≤ 4000) (hr : w.rangeAt g 0 (Term.tcells num0 none 0 0)) :
  Calls Tryz.prog 80 #[.slice (some ⟨g, 0, none⟩) 1 c, .int .i64 m] w fun e w' => ∃ q, e = .returned (.slice (some ⟨q, 0, none⟩) m m) ∧ w'.heap[q]? = some (.cells (lay m m).toArray 89 (0, 0)) ∧ w.heap.size ≤ q ∧ Below w.heap.size w w' := by
 obtain ⟨i0, hi, hz0, hz1, hz2⟩ := info_parts Term.infoTerm
 have hmk : ∀ W : World, (Instr.makeSlice 87 (.int .i64 (m : Int)) (.int .i64 (m : Int))).run Tryz.prog W = .ok (.slice (some ⟨W.heap.size, 0, none⟩) m m) (W.alloc (.cells (lay 0 m).toArray 89)) := fun W => by
  have h := run_make (P := Tryz.prog) W 87 89 i0 _ Tryz.underlying87 hi hz0 .i64 .i64 m m (by omega) (Int.le_refl _) (by rw [hz2]; omega) (by omega)
  rw [hz1, Int.toNat_natCast] at h
  rw [h, ← lay_zero]
  rfl
 have hsz : (Tryz.prog.info? 89).map (·.size) = some 8 := by rw [hi]; simp [hz1]
 have hmul := mul_walk 1 m (by omega) (by omega) w
 rw [Nat.one_mul, Nat.div_eq_of_lt (by omega), Nat.mod_eq_of_lt (by omega)] at hmul
 have hsrc : ∀ (W : World), Below w.heap.size w W → ∀ k, k ≤ 1 → ∀ j v, (nums k)[j]? = some v → W.cell? ((⟨g, 0, none⟩ : Addr).add j) = some v := by
  intro W hb k hk j v hv
  have hj : j < k * 8 := by
   rcases Nat.lt_or_ge j (k * 8) with h | h
   ·exact h
   ·rw [List.getElem?_eq_none (by rw [nums_len]; exact h)] at hv; cases hv
  rw [nums_at hj] at hv
  have h1 : (Term.tcells num0 none 0 0)[j]? = some v := by
   rw [← hv]
   have hj8 : j < 8 := by omega
   match j, hj8 with
   | 0, _ => rfl
   | 1, _ => rfl
   | 2, _ => rfl
   | 3, _ => rfl
   | 4, _ => rfl
   | 5, _ => rfl
   | 6, _ => rfl
   | 7, _ => rfl
  have h2 := hr j v h1
  rw [Addr.add_lit]
  exact (hb.cell (p := ⟨g, 0 + j, none⟩) (World.block_lt_of_cell? w _ h2)).trans h2
 have w1 : IntKind.u64.wrap (m : Int) = m := by rw [IntKind.wrap_u64]; omega
 have w2 : IntKind.i64.wrap (m : Int) = m := by rw [IntKind.wrap_i64]; omega
 have HMUL := Lib.hid hmul; have HSRC := Lib.hid hsrc; have HSZ := Lib.hid hsz; have HMK := Lib.hid hmk
 clear hmul hsrc hsz hi hz0 hz1 hz2 hr hmk
 go_enter Tryz.func80, Tryz.ntmps80
 go_wp2_with (fail)
 refine HMUL.out.mono ?_
 rintro e wx ⟨rfl, hw⟩
 obtain rfl := hw.symm
 clear hw
 have hmk := HMK.out w
 have hd : decide ((9223372036854775807 : Int) < (m : Int)) = false := decide_eq_false (by omega)
 have hg0 := lt_block_new w (.cells (lay 0 m).toArray 89)
 have hb0 : Below w.heap.size w (w.alloc (.cells (lay 0 m).toArray 89)) := (Below.refl _ _).alloc (Nat.le_refl _) _
 obtain ⟨k0, hk0, hk1, hk2, hk3⟩ : ∃ k0, Nat.min 1 m = k0 ∧ k0 ≤ 1 ∧ k0 ≤ m ∧ (m ≠ 0 → k0 = 1) := ⟨_, rfl, Nat.min_le_left 1 m, Nat.min_le_right 1 m, fun h => Nat.min_eq_left (by omega)⟩
 have HK0 := Lib.hid hk0; have HK3 := Lib.hid hk3
 clear hk0 hk3
 have HG0 := Lib.hid hg0; have HB0 := Lib.hid hb0
 clear hg0 hb0
 go_wp2_with (refine copy_lay rfl (.tmp 31) (.tmp 32) 87 87 rfl 89 Tryz.underlying87 HSZ.out w.heap.size 0 m m ⟨g, 0, none⟩ 1 c rfl rfl 89 0 m k0 HG0.out (by omega) HK0.out (by omega) (HSRC.out _ HB0.out _ hk1) ?_; intro w1 hg1 hb1; have HG1 := Lib.hid hg1; have HB1 := Lib.hid (HB0.out.trans hb1); clear hg1 hb1)
 go_loopw [8] (fun n8 wr => ∃ n : Nat, n ≤ m ∧ n8 = .int .i64 n ∧ (m ≠ 0 → 1 ≤ n) ∧ Hid (wr.heap[w.heap.size]? = some (.cells (lay n m).toArray 89 (0, 0))) ∧ Hid (Below w.heap.size w wr)) (fun n8 _ => m - (intOf n8).toNat)
 case atStart => exact ⟨k0, hk2, rfl, fun h => by have := HK3.out h; omega, by rw [Nat.zero_add] at HG1; exact HG1, HB1⟩
 case round =>
  obtain ⟨n, hn, rfl, hn1, HG, HB⟩ := hrel
  by_cases hlt : n < m
  ·have hn0 := hn1 (by omega)
   have HN1 := Lib.hid hn1
   clear hn1
   go_upto_region 9 with (fail)
   obtain ⟨k, hk, hk1, hk2⟩ : ∃ k, Nat.min n (m - n) = k ∧ k ≤ n ∧ k ≤ m - n ∧ 1 ≤ k := ⟨_, rfl, Nat.min_le_left _ _, Nat.min_le_right _ _, Nat.le_min.2 ⟨hn0, by omega⟩⟩
   have HK := Lib.hid hk
   clear hk
   have n0 : (0 : Int) ≤ (n : Int) := by omega
   have n1 : (n : Int) ≤ (m : Int) := by omega
   have hwn : IntKind.i64.wrap ((n : Int) + (k : Int)) = (n : Int) + (k : Int) := by rw [IntKind.wrap_i64]; omega
   go_region_law (refine step_copy_lay rfl (.tmp 41) (.tmp 44) 87 87 rfl 89 Tryz.underlying87 HSZ.out w.heap.size (n * 8) (m - n) (m - n) ⟨w.heap.size, 0, none⟩ n m (by simp [Act.eval, Act.put]; try omega) (by simp [Act.eval, Act.put]; try omega) 89 n m k HG.out rfl HK.out (by omega) (nums_src (W := wr.drew) HG.out hk1 hn) ?_; intro w2 hg2 hb2; have HG2 := Lib.hid hg2; have HB2 := Lib.hid (HB.out.drew.trans hb2); clear hg2 hb2)
   all_goals
    go_wp2_with (fail)
    go_roundw
    case rel => exact ⟨n + k, by omega, by omega, fun _ => by omega, HG2⟩
    case measure => simp [intOf]; omega
  ·obtain rfl : n = m := by omega
   go_wp2_with (fail)
   go_ret
   exact ⟨w.heap.size, rfl, HG.out, Nat.le_refl _, HB.out⟩
end Aterm
end Go.Proofs.YtkfkpjngiffamaaGreatDoor
namespace Go.Proofs.YtkfkpjngiffamaaGreatDoor
open Go.RowKit
set_option linter.unusedVariables false
namespace Term

def Owns (N : Nat) (W : World) (b : Nat) : Prop := b = N ∨ (N < b ∧ ∃ cur, W.heap[b]? = some (.cells cur 5 (0, 0)))
theorem Owns.low {N : Nat} {W : World} {b : Nat} (h : Owns N W b) : N ≤ b := by rcases h with h | h <;> omega
structure Stays (N : Nat) (w w' : World) : Prop where
 os : w'.os = w.os
 tape : w'.tape = w.tape
 output : w'.output = w.output
 size : w.heap.size ≤ w'.heap.size
 block : ∀ b, b < w.heap.size → ¬ Owns N w b → w'.heap[b]? = w.heap[b]?
theorem Stays.refl (N : Nat) (w : World) : Stays N w w := ⟨rfl, rfl, rfl, Nat.le_refl _, fun _ _ _ => rfl⟩
theorem owns_back {N : Nat} {w w' : World} {b : Nat} (h : w'.heap[b]? = w.heap[b]?) (ho : Owns N w' b) : Owns N w b := by
 unfold Owns at *
 rw [h] at ho
 exact ho
theorem Stays.trans {N : Nat} {a b c : World} (h : Stays N a b) (k : Stays N b c) : Stays N a c :=
 ⟨k.os.trans h.os, k.tape.trans h.tape, k.output.trans h.output, Nat.le_trans h.size k.size, fun i hi hn => by
  have h1 := h.block i hi hn
  exact (k.block i (Nat.lt_of_lt_of_le hi h.size) (fun ho => hn (owns_back h1 ho))).trans h1⟩
theorem Stays.cell {N : Nat} {w w' : World} (h : Stays N w w') {p : Addr} (hp : p.block < w.heap.size) (ho : ¬ Owns N w p.block) : w'.cell? p = w.cell? p := World.cell?_of_block (h.block p.block hp ho)
theorem Stays.of_below {N : Nat} {w w' : World} (hb : Below w.heap.size w w') : Stays N w w' :=
 ⟨hb.os, hb.tape, hb.output, hb.size, fun i hi _ => hb.block i hi⟩
theorem Stays.alloc {N : Nat} {a w : World} (h : Stays N a w) (o : Obj) : Stays N a (w.alloc o) :=
 h.trans (Stays.of_below ((Below.refl _ _).alloc (Nat.le_refl _) o))
theorem Stays.drew {N : Nat} {a w : World} (h : Stays N a w) : Stays N a w.drew := ⟨h.os, h.tape, h.output, h.size, h.block⟩
theorem Stays.set {N : Nat} {a w : World} (h : Stays N a w) (u : Value) : Stays N a (w.setCell ⟨N, 0, none⟩ u) :=
 h.trans ⟨rfl, rfl, rfl, by simp [World.setCell], fun i hi hn => Below.heap_setCell _ _ _ _ (fun e => hn (.inl e))⟩
theorem Stays.below {N B : Nat} {W w' : World} (hs : Stays N W w') (hB : B ≤ N) (hW : B ≤ W.heap.size) : Below B W w' :=
 ⟨hs.os, hs.tape, hs.output, hs.size, fun i hi => hs.block i (by omega) (fun h => by have := h.low; omega)⟩

structure Goes {σ : Type} (w0 : World) (N : Nat) (I : Nat → σ → World → Prop) : Prop where
 base : ∀ r s W, I r s W → Reads w0 W
 has : ∀ r s W, I r s W → N < W.heap.size
 keep : ∀ r s W W', I r s W → Below W.heap.size W W' → I r s W'
 less : ∀ r r' s W, I r s W → r' ≤ r → I r' s W

mutual
def foT {σ : Type} (B : σ → Tm → Bool) (S : σ → Tm → σ) : Tm → σ → Bool × σ
 | .node h l, s => if B s (.node h l) = true then foK B S l (S s (.node h l)) else (false, S s (.node h l))
def foK {σ : Type} (B : σ → Tm → Bool) (S : σ → Tm → σ) : List Tm → σ → Bool × σ
 | [], s => (true, s)
 | t :: ts, s => if (foT B S t s).1 = true then foK B S ts (foT B S t s).2 else (false, (foT B S t s).2)
end
section
variable {σ : Type} (B : σ → Tm → Bool) (S : σ → Tm → σ)
theorem foT_eq (t : Tm) (s : σ) : foT B S t s = if B s t = true then foK B S t.ks (S s t) else (false, S s t) := by cases t; unfold foT; rfl
theorem foK_nil (s : σ) : foK B S [] s = (true, s) := by unfold foK; rfl
theorem foK_cons (t : Tm) (ts : List Tm) (s : σ) : foK B S (t :: ts) s = if (foT B S t s).1 = true then foK B S ts (foT B S t s).2 else (false, (foT B S t s).2) := by conv => lhs; unfold foK
theorem foK_no {ts : List Tm} {j : Nat} {u : σ} (hj : j < ts.length) (h : B u (tget ts j) = false) : foK B S (ts.drop j) u = (false, S u (tget ts j)) := by
 rw [drop_tget ts j hj, foK_cons, foT_eq]
 simp [h]
theorem foK_kno {ts : List Tm} {j : Nat} {u : σ} (hj : j < ts.length) (h : B u (tget ts j) = true) (hk : (foK B S (tget ts j).ks (S u (tget ts j))).1 = false) : foK B S (ts.drop j) u = (false, (foK B S (tget ts j).ks (S u (tget ts j))).2) := by
 rw [drop_tget ts j hj, foK_cons, foT_eq, if_pos h, if_neg (by rw [hk]; exact Bool.false_ne_true)]
theorem foK_yes {ts : List Tm} {j : Nat} {u : σ} (hj : j < ts.length) (h : B u (tget ts j) = true) (hk : (foK B S (tget ts j).ks (S u (tget ts j))).1 = true) : foK B S (ts.drop j) u = foK B S (ts.drop (j + 1)) (foK B S (tget ts j).ks (S u (tget ts j))).2 := by
 rw [drop_tget ts j hj, foK_cons, foT_eq, if_pos h, if_pos hk]
end
theorem wts_drop (ts : List Tm) (j : Nat) (hj : j < ts.length) : wts (ts.drop j) = wts (tget ts j).ks + 1 + wts (ts.drop (j + 1)) := by
 rw [drop_tget ts j hj, wts_cons, wt_ks]

def FoEnd {σ : Type} (N : Nat) (I : σ → World → Prop) (r : Bool × σ) (w : World) (e : Ending) (w' : World) : Prop := e = .returned (.bool r.1) ∧ (r.1 = true → I r.2 w') ∧ Stays N w w'
def Steps {σ : Type} (c : Nat) (B : σ → Tm → Bool) (S : σ → Tm → σ) (w0 : World) (N K : Nat) (I : Nat → σ → World → Prop) : Prop :=
 ∀ r s W t h p l c', I (r + 1) s W → TmIs w0 h p l c' t → Calls Tryz.prog c #[.agg #[.int .u8 h.k, .int .u8 h.op, .int .i64 h.pl, .int .i64 h.n, .string h.name, .string h.arg, .string h.exn, .slice p l c'], .pointer (some ⟨K, 0, none⟩)] W (FoEnd N (I r) (B s t, S s t) W)
theorem box_stays {N : Nat} {wr W : World} {cs : Array Value} {ty : TypeId} (hN : N < wr.heap.size) (hty : ty ≠ 5) (hs : Stays N (wr.alloc (.cells cs ty)) W) (j : Nat) {v : Value} (hv : cs[j]? = some v) : W.cell? ⟨wr.heap.size, j, none⟩ = some v := by
 rw [hs.cell (p := ⟨wr.heap.size, j, none⟩) (by simp) (fun h => by
  rcases h with h | ⟨_, cur, h⟩
  ·simp at h; omega
  ·rw [heap_alloc_new wr (.cells cs ty)] at h
   simp at h
   exact hty h.2), World.cell?_alloc_mark, hv]

end Term
end Go.Proofs.YtkfkpjngiffamaaGreatDoor
namespace Go.Proofs.YtkfkpjngiffamaaGreatDoor
open Go.RowKit
set_option linter.unusedVariables false
namespace Term

set_option maxRecDepth 10000 in
set_option maxHeartbeats 6400000 in
theorem allMay_walk {σ : Type} (B : σ → Tm → Bool) (S : σ → Tm → σ) (w0 : World) (N K : Nat) (I : Nat → σ → World → Prop) (hI : Goes w0 N I) (hC : Steps 98 B S w0 N K I) :
  ∀ (m : Nat) (ts : List Tm) (p : Option Addr) (l d r : Nat) (s : σ) (w : World), wts ts ≤ m → ts.length = l → l ≤ maxLen → Kids w0 p ts → I (r + wts ts) s w →
  Calls Tryz.prog 97 #[.func (.func 98) #[] #[.pointer (some ⟨K, 0, none⟩)], .slice p l d] w (FoEnd N (I r) (foK B S ts s) w) := by
 have GI := Lib.hid hI; have GC := Lib.hid hC
 clear hI hC
 intro m
 induction m using Nat.strongRecOn with
 | _ m ih =>
  intro ts p l d r s w hm hl hlm hk hi
  unfold maxLen at hlm
  have HM := Lib.hid hm; have HL := Lib.hid hl; have HK := Lib.hid hk; have HI := Lib.hid hi; have IH := Lib.hid ih
  clear hm hl hk hi ih
  go_enter Tryz.func97, Tryz.ntmps97
  go_wp2_with (fail)
  go_loopw [6, 9] (fun _ i wr => ∃ (j : Nat) (u : σ), j ≤ l ∧ i = .int .i64 j ∧ Hid (foK B S ts s = foK B S (ts.drop j) u) ∧ Hid (I (r + wts (ts.drop j)) u wr) ∧ Hid (Stays N w wr)) (fun _ i _ => l - (intOf i).toNat)
  case atStart => exact ⟨0, s, Nat.zero_le _, rfl, Lib.hid (by rw [List.drop_zero]), Lib.hid (by rw [List.drop_zero]; exact HI.out), Lib.hid (Stays.refl _ _)⟩
  case round =>
   obtain ⟨j, u, hj, rfl, HF, HJ, HS⟩ := hrel
   by_cases hlt : j < l
   ·have hjk : j < ts.length := by rw [HL.out]; exact hlt
    obtain ⟨b, o, q, c', rfl, hkid, c0, c1, c2, c3, c4, c5, c6, c7⟩ := HK.out.get j hjk
    have hB := GI.out.base _ _ _ HJ.out
    have hNw := GI.out.has _ _ _ HJ.out
    have e0 := hB _ _ c0
    have e1 := hB _ _ c1
    have e2 := hB _ _ c2
    have e3 := hB _ _ c3
    have e4 := hB _ _ c4
    have e5 := hB _ _ c5
    have e6 := hB _ _ c6
    have e7 := hB _ _ c7
    have hwd := wts_drop ts j hjk
    have hwm : wts (tget ts j).ks < wts ts := by have h1 := wts_get hjk; have h2 := wt_ks (tget ts j); omega
    have hin : I ((r + wts (ts.drop (j + 1))) + wts (tget ts j).ks + 1) u wr := GI.out.less _ _ _ _ HJ.out (by omega)
    have hstep := fun O : Obj => GI.out.keep _ _ _ _ hin ((Below.refl wr.heap.size wr).alloc (Nat.le_refl _) O)
    have HJK := Lib.hid hjk; have HKID := Lib.hid hkid; have HNW := Lib.hid hNw; have HWM := Lib.hid hwm; have HSTEP := Lib.hid hstep
    clear hjk hkid hB hNw c0 c1 c2 c3 c4 c5 c6 c7 hwd hwm hin hstep
    go_wp2_with (fail)
    refine (GC.out _ _ _ _ _ _ _ _ (HSTEP.out _) HKID.out).mono ?_
    rintro e w1 ⟨rfl, hi1, hs1⟩
    have b7 := box_stays HNW.out (by decide) hs1 7 rfl
    have HI1 := Lib.hid hi1
    have HS1 := Lib.hid ((HS.out.alloc _).trans hs1)
    clear hi1 hs1 e0 e1 e2 e3 e4 e5 e6 e7
    cases hb : B u (tget ts j)
    ·have hno := foK_no B S HJK.out hb
     have HNO := Lib.hid hno; have HB := Lib.hid hb
     clear hno hb
     go_wp2
     go_ret
     exact ⟨ret_bool (by rw [HF.out, HNO.out]), (fun h => by rw [HF.out, HNO.out] at h; cases h), HS1.out⟩
    ·have hi2 := HI1.out hb
     have HI2 := Lib.hid hi2; have HB := Lib.hid hb
     clear hi2 hb
     go_wp2_with (fail)
     refine (IH.out (wts (tget ts j).ks) (by have := HWM.out; have := HM.out; omega) (tget ts j).ks q _ c' (r + wts (ts.drop (j + 1))) _ _ (Nat.le_refl _) rfl (Nat.le_trans HKID.out.cap.1 HKID.out.cap.2) HKID.out.kids HI2.out).mono ?_
     rintro e w2 ⟨rfl, hi3, hs3⟩
     have HI3 := Lib.hid hi3
     have HS3 := Lib.hid (HS1.out.trans hs3)
     clear hi3 hs3 b7
     cases hk : (foK B S (tget ts j).ks (S u (tget ts j))).1
     ·have hno := foK_kno B S HJK.out HB.out hk
      have HNO := Lib.hid hno; have HKB := Lib.hid hk
      clear hno hk
      go_wp2
      go_ret
      exact ⟨ret_bool (by rw [HF.out, HNO.out]), (fun h => by rw [HF.out, HNO.out] at h; cases h), HS3.out⟩
     ·have hyes := foK_yes B S HJK.out HB.out hk
      have hi4 := HI3.out hk
      have HYES := Lib.hid hyes; have HI4 := Lib.hid hi4; have HKB := Lib.hid hk
      clear hyes hi4 hk
      go_wp2
      go_roundw
      case rel => exact ⟨j + 1, _, by omega, by go_num, Lib.hid (HF.out.trans HYES.out), HI4, HS3⟩
      case measure => simp [intOf]; omega
   ·obtain rfl : j = l := by omega
    have hr := HF.out
    have hi := HJ.out
    rw [List.drop_eq_nil_of_le (by rw [HL.out]; exact Nat.le_refl _)] at hr hi
    rw [foK_nil] at hr
    rw [wts_nil] at hi
    have HR := Lib.hid hr; have HI2 := Lib.hid hi
    clear hr hi
    go_wp2
    go_ret
    exact ⟨ret_bool (by rw [HR.out]), (fun _ => by rw [HR.out]; exact HI2.out), HS.out⟩

end Term
end Go.Proofs.YtkfkpjngiffamaaGreatDoor
namespace Go.Proofs.YtkfkpjngiffamaaGreatDoor
open Go.RowKit
set_option linter.unusedVariables false
namespace Term
open Words (str_no str_yes)

def sameH (a b : Hd) : Bool := decide (a.k = b.k ∧ a.op = b.op ∧ a.n = b.n ∧ a.name = b.name ∧ a.arg = b.arg ∧ a.exn = b.exn)
mutual
def sameT : Tm → Tm → Bool
 | .node h l, u => sameH h u.h && decide (l.length = u.ks.length) && sameK l u.ks
def sameK : List Tm → List Tm → Bool
 | [], _ => true
 | _ :: _, [] => true
 | t :: ts, u :: us => sameT t u && sameK ts us
end
theorem sameT_eq (t u : Tm) : sameT t u = (sameH t.h u.h && decide (t.ks.length = u.ks.length) && sameK t.ks u.ks) := by
 cases t
 conv => lhs; unfold sameT
 rfl
theorem sameK_cons (t u : Tm) (ts us : List Tm) : sameK (t :: ts) (u :: us) = (sameT t u && sameK ts us) := by conv => lhs; unfold sameK
theorem sameK_nil (us : List Tm) : sameK [] us = true := by conv => lhs; unfold sameK
theorem sameK_step (ts us : List Tm) (j : Nat) (h1 : j < ts.length) (h2 : j < us.length) : sameK (ts.drop j) (us.drop j) = (sameT (tget ts j) (tget us j) && sameK (ts.drop (j + 1)) (us.drop (j + 1))) := by
 rw [drop_tget ts j h1, drop_tget us j h2, sameK_cons]

end Term
end Go.Proofs.YtkfkpjngiffamaaGreatDoor
namespace Go.Proofs.YtkfkpjngiffamaaGreatDoor
open Go.RowKit
set_option linter.unusedVariables false
namespace Term
open Words (str_no str_yes)

theorem toList_inj {a b : ByteArray} (h : a.toList = b.toList) : a = b := by
 apply Classical.byContradiction
 intro hn
 have := str_no hn
 rw [h] at this
 simp at this
theorem sameH_of {k op pl nn k' op' pl' nn' : Int} {nm ar ex nm' ar' ex' : ByteArray} (h1 : k = k') (h2 : op = op') (h3 : nn = nn') (h4 : nm.toList = nm'.toList) (h5 : ar.toList = ar'.toList) (h6 : ex.toList = ex'.toList) :
  sameH ⟨k, op, pl, nn, nm, ar, ex⟩ ⟨k', op', pl', nn', nm', ar', ex'⟩ = true := by
 unfold sameH
 exact decide_eq_true ⟨h1, h2, h3, toList_inj h4, toList_inj h5, toList_inj h6⟩
end Term
end Go.Proofs.YtkfkpjngiffamaaGreatDoor
