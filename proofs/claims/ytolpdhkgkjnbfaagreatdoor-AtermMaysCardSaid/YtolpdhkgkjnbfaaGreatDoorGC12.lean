/-The program's Apart of terms with regions. (Written by wip/tools/atapartq.py.) The program's Apart of terms with regions: the whole. (Written by wip/tools/atapartr.py.) The program's way through all nodes, whatever its closure does. The program's way through all nodes: the walk, with the closure of May. On the sameness of terms: mathematics. The walk of the program's look at a node's fields. What may be of a node, kind by kind: just its fields, and what they hold. The walk of the program's look at a node: the kinds 1, 2, 3, 4, 5, 6. -/
import Derived.Test.YtolpdhkgkjnbfaaGreatDoorGC11
import Derived.Test.YtolpdhkgkjnbfaaGreatDoorGC00
import Derived.Test.YtolpdhkgkjnbfaaGreatDoorGC09
import Derived.Test.YtolpdhkgkjnbfaaGreatDoorGC08
import Derived.RegionTactic
import Derived.BigRegion
import Derived.Test.YtolpdhkgkjnbfaaGreatDoorGC01
import Derived.Test.YtolpdhkgkjnbfaaGreatDoorGC03
namespace Go.Proofs.YtolpdhkgkjnbfaaGreatDoor
open Go.RowKit Go.Maps
set_option linter.unusedVariables false
set_option linter.unusedSimpArgs false
namespace Aterm
open Effect (RdI nget nget_at nget_mem ret_bool lt_of_block heap_alloc_new)
open Rt (box_new box_at below_then)

/-- The blocks that Apart's closure turns. -/
def ApP (Na M : Nat) (k : Nat) (_ : Option Obj) : Prop := k = Na ∨ k = M
/-- What is met, in memory. -/
structure ApAt (w0 : World) (Nm Na M : Nat) (s : List Int × Option Int) (W : World) : Prop where
  map : W.heap[Nm]? = some (.cells #[.map (some M)] 84 (0, 0))
  at_ : W.heap[Na]? = some (.cells #[.int .i64 (s.2.getD 0)] 3 (0, 0))
  set : SetAt W M s.1
  ne1 : Na ≠ M
  ne2 : Nm ≠ Na
  ne3 : Nm ≠ M
  low1 : w0.heap.size ≤ Na
  low2 : w0.heap.size ≤ M
theorem ApAt.below {w0 : World} {Nm Na M : Nat} {s : List Int × Option Int} {W W' : World} (h : ApAt w0 Nm Na M s W) (hb : Below W.heap.size W W') : ApAt w0 Nm Na M s W' :=
  ⟨(hb.block _ (lt_of_block h.map)).trans h.map, (hb.block _ (lt_of_block h.at_)).trans h.at_, h.set.below hb, h.ne1, h.ne2, h.ne3, h.low1, h.low2⟩
/-- One more is met. -/
theorem ApAt.meet {w0 : World} {Nm Na M : Nat} {met : List Int} {x : Int} {o : Option Int} {W W' : World} (h : ApAt w0 Nm Na M (met, o) W) (hs : SetAt W' M (met ++ [x])) (hg : W.grownBy W' (some M)) : ApAt w0 Nm Na M (met ++ [x], o) W' :=
  ⟨(hg.block _ (lt_of_block h.map) (fun e => h.ne3 (Option.some.inj e))).trans h.map, (hg.block _ (lt_of_block h.at_) (fun e => h.ne1 (Option.some.inj e))).trans h.at_, hs, h.ne1, h.ne2, h.ne3, h.low1, h.low2⟩
/-- One is met again. -/
theorem ApAt.again {w0 : World} {Nm Na M : Nat} {met : List Int} {o : Option Int} {W : World} (h : ApAt w0 Nm Na M (met, o) W) (pl : Int) : ApAt w0 Nm Na M (met, some pl) (W.setCell ⟨Na, 0, none⟩ (.int .i64 pl)) ∧ Tch (ApP Na M) W (W.setCell ⟨Na, 0, none⟩ (.int .i64 pl)) := by
  have ho : ∀ k, k ≠ Na → (W.setCell ⟨Na, 0, none⟩ (.int .i64 pl)).heap[k]? = W.heap[k]? := fun k hk => Below.heap_setCell _ _ _ _ hk
  refine ⟨⟨(ho _ h.ne2).trans h.map, ?_, h.set.of_block (ho _ (fun e => h.ne1 e.symm)), h.ne1, h.ne2, h.ne3, h.low1, h.low2⟩, ⟨rfl, rfl, rfl, by simp [World.setCell], fun k _ hn => ho k (fun e => hn (.inl e))⟩⟩
  simp [World.setCell, Array.getElem?_modify, h.at_]
theorem Tch.meets {Na M : Nat} {W W' : World} (hg : W.grownBy W' (some M)) : Tch (ApP Na M) W W' := ⟨hg.os, hg.tape, hg.output, hg.size, fun k hk hn => hg.block k hk (fun e => hn (.inr (Option.some.inj e)))⟩
def ApI (w0 : World) (Nm Na M : Nat) (r : Nat) (s : List Int × Option Int) (W : World) : Prop := ApAt w0 Nm Na M s W ∧ s.1.length + 100 * r ≤ 1000000000
/-- Not too many of a node's own. -/
def fewB (h : Hd) (_ : Nat) : Bool := decide (h.rhos.length ≤ 50)
theorem ApI.goes {w0 : World} {Nm Na M : Nat} (h1 : w0.heap.size ≤ Na) (h2 : w0.heap.size ≤ M) : Goes w0 (ApP Na M) (ApI w0 Nm Na M) where
  low := fun k O hk h => by rcases h with h | h <;> omega
  new := fun r s W h cs fz hp => by
    have e1 := lt_of_block h.1.at_
    have e2 := h.1.set.lt
    rcases hp with hp | hp <;> omega
  keep := fun r s W W' h hb => ⟨h.1.below hb, h.2⟩
  less := fun r r' s W h hr => ⟨h.1, by have := h.2; omega⟩
theorem own_few {h : Hd} {n : Nat} (hf : fewB h n = true) : (ownH h).length ≤ 50 := by
  have hf' : h.rhos.length ≤ 50 := of_decide_eq_true hf
  unfold ownH
  split
  · simp
  · split
    · exact hf'
    · simp
theorem metI_le : ∀ (xs met : List Int), (metI met xs).length ≤ met.length + xs.length
  | [], met => by rw [metI]; exact Nat.le_refl _
  | x :: xs, met => by
    rw [metI]
    split
    · simp
    · have := metI_le xs (met ++ [x])
      simp at this ⊢
      omega
theorem met_step {own : List Int} {j : Nat} (hj : j < own.length) : own.drop j = nget own j :: own.drop (j + 1) := by
  rw [List.drop_eq_getElem_cons hj]
  have := nget_at hj
  rw [List.getElem?_eq_getElem hj] at this
  rw [Option.some.inj this]

set_option maxRecDepth 10000 in
set_option maxHeartbeats 6400000 in
theorem apart1_walk (w0 : World) (Nm Na M : Nat) : Steps 78 [.pointer (some ⟨Nm, 0, none⟩), .pointer (some ⟨Na, 0, none⟩)] apB apS fewB w0 (ApP Na M) (ApI w0 Nm Na M) := by
  intro r s W t h v l hi hT hC hb0
  obtain ⟨hA, hlen⟩ := hi
  have hS : apS s t = (metI s.1 (ownH h), if metO s.1 (ownH h) = true then some h.h.pl else s.2) := by unfold apS; rw [hT.head]
  have hB : apB s t = !metO s.1 (ownH h) := by unfold apB; rw [hT.head]
  have hof := own_few hC
  have hml := metI_le (ownH h) s.1
  have hbw := fun (W' : World) (hb : Below W.heap.size W W') => binds_walk t h v l w0 W' hT (below_then hb0 hb hb0.size)
  have hpl := hT.ok.hd.pl
  have HS := Lib.hid hS; have HBB := Lib.hid hB; have HBW := Lib.hid hbw; have HA := Lib.hid hA; have HB00 := Lib.hid hb0; have HML := Lib.hid hml
  have hfin : ∀ s' W', ApAt w0 Nm Na M s' W' → s'.1.length ≤ (metI s.1 (ownH h)).length → ApI w0 Nm Na M r s' W' := fun s' W' h1 h2 => ⟨h1, by omega⟩
  have HFIN := Lib.hid hfin; have HOF := Lib.hid hof; have HLEN := Lib.hid hlen
  clear hS hB hbw hA hb0 hT hC hml hfin hof hlen
  show Calls Tryz.prog 78 #[.agg #[.int .u8 h.h.k, .int .u8 h.h.op, .int .i64 h.h.pl, .int .i64 h.h.n, .string h.h.name, .string h.h.arg, .string h.h.exn, .int .i64 h.rho, .slice v.ra h.rhos.length v.rc, .slice v.ea h.e.length v.ec, .int .u8 h.ty.h.k, .int .i64 h.ty.h.r, .slice v.tea h.ty.h.e.length v.tec, .slice v.tka h.ty.ks.length v.tkc, .int .u8 h.re.h.k, .int .i64 h.re.h.r, .slice v.sea h.re.h.e.length v.sec, .slice v.ska h.re.ks.length v.skc, .slice v.ka l v.kc], .pointer (some ⟨Nm, 0, none⟩), .pointer (some ⟨Na, 0, none⟩)] W _
  go_enter Tryz.func78, Tryz.ntmps78
  go_upto_region 1 with (fail)
  obtain ⟨W0, hW0⟩ : ∃ W0, W0 = W.alloc (.cells #[.int .u8 h.h.k, .int .u8 h.h.op, .int .i64 h.h.pl, .int .i64 h.h.n, .string h.h.name, .string h.h.arg, .string h.h.exn, .int .i64 h.rho, .slice v.ra h.rhos.length v.rc, .slice v.ea h.e.length v.ec, .int .u8 h.ty.h.k, .int .i64 h.ty.h.r, .slice v.tea h.ty.h.e.length v.tec, .slice v.tka h.ty.ks.length v.tkc, .int .u8 h.re.h.k, .int .i64 h.re.h.r, .slice v.sea h.re.h.e.length v.sec, .slice v.ska h.re.ks.length v.skc, .slice v.ka l v.kc] 31) := ⟨_, rfl⟩
  have hbx : Box W0 W.heap.size h v l := by rw [hW0]; exact box_of (w := W) (h := h) (v := v) (l := l)
  have hb0 : Below W.heap.size W W0 := by rw [hW0]; exact box_new _
  rw [← hW0]
  clear hW0
  generalize hN0 : W.heap.size = N0 at hbx ⊢
  have HB0 := Lib.hid hb0; have HBX := Lib.hid hbx; have HRG := Lib.hid hbx.range
  obtain ⟨b0, b1, b2, b3, b4, b5, b6, b7, b8, b9, b10, b11, b12, b13, b14, b15, b16, b17, b18⟩ := hbx
  clear hb0 b0 b1 b2 b3 b4 b5 b6 b7 b8 b9 b10 b11 b12 b13 b14 b15 b16 b17 b18
  have hne : ¬ ApP Na M N0 W0.heap[N0]? := by
    have e1 := lt_of_block HA.out.at_
    have e2 := HA.out.set.lt
    intro hp
    rcases hp with hp | hp <;> omega
  have HNE := Lib.hid hne; have HN0 := Lib.hid hN0
  clear hne hN0
  go_wp2_with (refine at_load rfl _ rfl N0 0 rfl HRG.out ?_)
  refine (HBW.out _ HB0.out).mono ?_
  rintro e w1 ⟨p, n, c, rfl, hn, hrd, hb1, hor⟩
  have hcell : ∀ W', Tch (ApP Na M) w1 W' → ∀ j, j < (ownH h).length → ∃ b o, p = some ⟨b, o, none⟩ ∧ W'.cell? ⟨b, o + j, none⟩ = some (.int .i64 (nget (ownH h) j)) := by
    intro W' hW j hj
    obtain ⟨b, o, hp, hc⟩ := hrd.get j hj
    refine ⟨b, o, hp, ?_⟩
    have hlt := World.block_lt_of_cell? w1 _ hc
    have hnp : ¬ ApP Na M b w1.heap[b]? := by
      have e1 := lt_of_block HA.out.at_
      have e2 := HA.out.set.lt
      have e3 := HA.out.low1
      have e4 := HA.out.low2
      have e5 := HB0.out.size
      intro hq
      have hbig : b < w0.heap.size ∨ W0.heap.size ≤ b := by
        rcases hor with h0 | h0
        · obtain ⟨b', o', hp', hc'⟩ := h0.get j hj
          rw [hp] at hp'
          injection hp' with hp'
          injection hp' with e6 e7
          subst e6
          exact .inl (World.block_lt_of_cell? w0 _ hc')
        · exact .inr (h0 b o hp).1
      have hsz : W.heap.size ≤ W0.heap.size := e5
      rcases hq with hq | hq <;> rcases hbig with hb | hb <;> omega
    rw [World.cell?_of_block (w := w1) (a := ⟨b, o + j, none⟩) (hW.block b hlt hnp)]
    exact hc
  have hA1 : ApAt w0 Nm Na M s w1 := (HA.out.below HB0.out).below hb1
  have hrx := hrd.ok
  have HCELL := Lib.hid hcell; have HA1 := Lib.hid hA1; have HB1 := Lib.hid hb1; have HNN := Lib.hid hn; have HRX := Lib.hid hrx
  have HNE1 := Lib.hid (show ¬ ApP Na M N0 w1.heap[N0]? from HNE.out)
  have hnb : n ≤ 50 := by have := HOF.out; omega
  clear hcell hA1 hb1 hrd hor hn hrx
  go_wp2_with (fail)
  go_loopw [6, 10] (fun _ i wr => ∃ (j : Nat) (met : List Int), j ≤ n ∧ i = .int .i64 j ∧ Hid (ApAt w0 Nm Na M (met, s.2) wr) ∧ Hid (metO s.1 (ownH h) = metO met ((ownH h).drop j)) ∧ Hid (metI s.1 (ownH h) = metI met ((ownH h).drop j)) ∧ Hid (Tch (ApP Na M) w1 wr)) (fun _ i _ => n - (intOf i).toNat)
  case atStart => exact ⟨0, s.1, Nat.zero_le _, rfl, HA1, Lib.hid (by rw [List.drop_zero]), Lib.hid (by rw [List.drop_zero]), Lib.hid (Tch.refl _)⟩
  case round =>
    obtain ⟨j, met, hj, rfl, HAR, HMO, HMI, HT⟩ := hrel
    have HWR := Lib.hid ((Tch.of_below (P := ApP Na M) HB0.out).trans ((Tch.of_below HB1.out).trans HT.out))
    by_cases hlt : j < n
    · have hjo : j < (ownH h).length := by rw [← HNN.out]; exact hlt
      obtain ⟨b, o, rfl, hc⟩ := HCELL.out wr HT.out j hjo
      have hx := HRX.out _ (nget_mem hjo)
      have hdr := met_step hjo
      have hmo := HMO.out; have hmi := HMI.out
      rw [hdr] at hmo hmi
      rw [metO] at hmo
      rw [metI] at hmi
      have hmet := metI_le ((ownH h).drop (j + 1)) (met ++ [nget (ownH h) j])
      have hml2 : met.length < 1000000000 ∨ met.contains (nget (ownH h) j) = true := by
        by_cases hc : met.contains (nget (ownH h) j) = true
        · exact .inr hc
        · rw [if_neg hc] at hmi
          left
          have h1 := HML.out; have h2 := HLEN.out; have h3 := HOF.out
          have hge : ∀ (xs m : List Int), m.length ≤ (metI m xs).length := by
            intro xs
            induction xs with
            | nil => intro m; rw [metI]; exact Nat.le_refl _
            | cons x xs ih => intro m; rw [metI]; split
                              · exact Nat.le_refl _
                              · have := ih (m ++ [x]); simp at this; omega
          have h4 := hge ((ownH h).drop (j + 1)) (met ++ [nget (ownH h) j])
          rw [← hmi] at h4
          simp at h4
          omega
      generalize hX : nget (ownH h) j = X at *
      have hlk := HAR.out.set.look hx
      have cm : wr.cell? ⟨Nm, 0, none⟩ = some (.map (some M)) := by simp [World.cell?, HAR.out.map]
      have ca : wr.cell? ⟨Na, 0, none⟩ = some (.int .i64 (s.2.getD 0)) := by simp [World.cell?, HAR.out.at_]
      have fa : wr.frozen? ⟨Na, 0, none⟩ = false := by simp [World.frozen?, HAR.out.at_]
      have hbx2 := (HT.out.box (HBX.out.below HB1.out) HNE1.out)
      obtain ⟨b0, b1, b2, b3, b4, b5, b6, b7, b8, b9, b10, b11, b12, b13, b14, b15, b16, b17, b18⟩ := hbx2
      clear b0 b1 b3 b4 b5 b6 b7 b8 b9 b10 b11 b12 b13 b14 b15 b16 b17 b18
      cases hq : met.contains X
      · rw [hq] at hlk hmo hmi
        rw [if_neg Bool.false_ne_true] at hmi
        rw [Bool.false_or] at hmo
        have hn1 : met.length < maxLen := by rcases hml2 with h | h
                                             · unfold maxLen; omega
                                             · rw [hq] at h; cases h
        have HQ := Lib.hid hq; have HMO2 := Lib.hid hmo; have HMI2 := Lib.hid hmi; have HXX := Lib.hid hx; have HN1 := Lib.hid hn1
        clear hq hmo hmi hx hdr hmet hml2 hn1 hX ca fa b2
        go_wp2_with (refine wpList_meet M met X rfl rfl rfl HAR.out.set HN1.out HXX.out ?_; intro w2 hs2 hg2 hz2; have HA2 := Lib.hid (HAR.out.meet hs2 hg2); have HT2 := Lib.hid (HT.out.trans (Tch.meets hg2)); clear hs2 hg2 hz2)
        go_roundw
        case rel => exact ⟨j + 1, met ++ [X], by omega, by go_num, HA2, Lib.hid (HMO.out.trans (by rw [HMO.out] at HMO2; exact HMO2.out)), Lib.hid HMI2.out, HT2⟩
        case measure => simp [intOf]; omega
      · rw [hq] at hlk hmo hmi
        rw [if_pos rfl] at hmi
        rw [Bool.true_or] at hmo
        have HMO2 := Lib.hid hmo; have HMI2 := Lib.hid hmi
        clear hq hmo hmi hx hdr hmet hml2 hX
        go_wp2_with (fail)
        go_ret
        have hag := HAR.out.again h.h.pl
        refine ⟨ret_bool (by rw [HBB.out, HMO2.out]; rfl), ?_, HWR.out.trans hag.2⟩
        rw [HS.out, HMO2.out, HMI2.out, if_pos rfl]
        exact HFIN.out _ _ hag.1 (by rw [HMI2.out]; exact Nat.le_refl _)
    · obtain rfl : j = n := by omega
      have hdr : (ownH h).drop j = [] := List.drop_eq_nil_of_le (by rw [← HNN.out]; exact Nat.le_refl _)
      have hmo := HMO.out; have hmi := HMI.out
      rw [hdr] at hmo hmi
      rw [metO] at hmo
      rw [metI] at hmi
      have HMO2 := Lib.hid hmo; have HMI2 := Lib.hid hmi
      clear hmo hmi hdr
      go_wp2_with (fail)
      go_ret
      refine ⟨ret_bool (by rw [HBB.out, HMO2.out]; rfl), ?_, HWR.out⟩
      rw [HS.out, HMO2.out, HMI2.out, if_neg Bool.false_ne_true]
      exact HFIN.out _ _ HAR.out (by rw [HMI2.out]; exact Nat.le_refl _)
end Aterm
end Go.Proofs.YtolpdhkgkjnbfaaGreatDoor
namespace Go.Proofs.YtolpdhkgkjnbfaaGreatDoor
open Go.RowKit Go.Maps
set_option linter.unusedVariables false
set_option linter.unusedSimpArgs false
namespace Aterm
open Effect (RdI nget nget_at nget_mem ret_bool ret_i64 lt_of_block heap_alloc_new ofA)
open Rt (box_new box_at below_then)

set_option maxRecDepth 10000 in
set_option maxHeartbeats 3200000 in
theorem apart_walk (t : AT) (h : Hd) (v : V) (l : Nat) (w : World) (hT : AtIs w h v l t) (hw : wt t ≤ 100000) (hc : allT fewB t = true) :
    Calls Tryz.prog 60 #[.agg #[.int .u8 h.h.k, .int .u8 h.h.op, .int .i64 h.h.pl, .int .i64 h.h.n, .string h.h.name, .string h.h.arg, .string h.h.exn, .int .i64 h.rho, .slice v.ra h.rhos.length v.rc, .slice v.ea h.e.length v.ec, .int .u8 h.ty.h.k, .int .i64 h.ty.h.r, .slice v.tea h.ty.h.e.length v.tec, .slice v.tka h.ty.ks.length v.tkc, .int .u8 h.re.h.k, .int .i64 h.re.h.r, .slice v.sea h.re.h.e.length v.sec, .slice v.ska h.re.ks.length v.skc, .slice v.ka l v.kc]] w fun e w' => e = .returned (.tuple #[.int .i64 ((apartT t).getD 0), .bool (apartT t).isNone]) ∧ Below w.heap.size w w' := by
  have hfo := fo_apart t
  have hk1 : foK apB apS [t] ([], none) = foT apB apS t ([], none) := by
    rw [foK_cons]
    cases hq : (foT apB apS t ([], none)).1
    · rw [if_neg Bool.false_ne_true, ← hq]
    · rw [if_pos rfl, foK_nil, ← hq]
  have hcc : allK fewB [t] = true := by rw [allK_of1]; exact hc
  have HT := Lib.hid hT; have HFO := Lib.hid hfo; have HK1 := Lib.hid hk1; have HCC := Lib.hid hcc; have HWT := Lib.hid hw
  clear hT hfo hk1 hcc hc hw
  have hmm := @run_makeMap Tryz.prog
  go_enter Tryz.func60, Tryz.ntmps60
  go_upto_region 1 with (fail)
  obtain ⟨W0, hW0⟩ : ∃ W0, W0 = w.alloc (.cells #[.int .u8 h.h.k, .int .u8 h.h.op, .int .i64 h.h.pl, .int .i64 h.h.n, .string h.h.name, .string h.h.arg, .string h.h.exn, .int .i64 h.rho, .slice v.ra h.rhos.length v.rc, .slice v.ea h.e.length v.ec, .int .u8 h.ty.h.k, .int .i64 h.ty.h.r, .slice v.tea h.ty.h.e.length v.tec, .slice v.tka h.ty.ks.length v.tkc, .int .u8 h.re.h.k, .int .i64 h.re.h.r, .slice v.sea h.re.h.e.length v.sec, .slice v.ska h.re.ks.length v.skc, .slice v.ka l v.kc] 31) := ⟨_, rfl⟩
  have hbx : Box W0 w.heap.size h v l := by rw [hW0]; exact box_of (w := w) (h := h) (v := v) (l := l)
  have hb0 : Below w.heap.size w W0 := by rw [hW0]; exact box_new _
  rw [← hW0]
  clear hW0
  generalize hN0 : w.heap.size = N0 at hbx ⊢
  have HB0 := Lib.hid hb0; have HBX := Lib.hid hbx; have HRG := Lib.hid hbx.range
  obtain ⟨b0, b1, b2, b3, b4, b5, b6, b7, b8, b9, b10, b11, b12, b13, b14, b15, b16, b17, b18⟩ := hbx
  clear hb0 b0 b1 b2 b3 b4 b5 b6 b7 b8 b9 b10 b11 b12 b13 b14 b15 b16 b17 b18
  go_upto_region 2 with (fail)
  have hs1 : (W0.alloc (.map #[] 0)).heap.size = W0.heap.size + 1 := by simp
  have hs2 : ((W0.alloc (.map #[] 0)).alloc (.cells #[.int .i64 0] 3)).heap.size = W0.heap.size + 2 := by simp
  have hn2 := heap_alloc_new (W0.alloc (.map #[] 0)) (.cells #[.int .i64 0] 3)
  have hn3 := heap_alloc_new ((W0.alloc (.map #[] 0)).alloc (.cells #[.int .i64 0] 3)) (.cells #[.map (some W0.heap.size)] 84)
  rw [hs1] at hn2
  rw [hs2] at hn3
  have hlo := HB0.out.size
  have hA0 : ApAt w (W0.heap.size + 1 + 1) (W0.heap.size + 1) W0.heap.size ([], none) (((W0.alloc (.map #[] 0)).alloc (.cells #[.int .i64 0] 3)).alloc (.cells #[.map (some W0.heap.size)] 84)) :=
    ⟨hn3, ((box_new _).block _ (by omega)).trans hn2, ((SetAt.new W0).below (box_new _)).below (box_new _), by omega, by omega, by omega, by omega, hlo⟩
  have hb1 : Below W0.heap.size W0 (((W0.alloc (.map #[] 0)).alloc (.cells #[.int .i64 0] 3)).alloc (.cells #[.map (some W0.heap.size)] 84)) := ((box_new _).trans ((box_new _).mono (by omega))).trans ((box_new _).mono (by omega))
  generalize hW1 : ((W0.alloc (.map #[] 0)).alloc (.cells #[.int .i64 0] 3)).alloc (.cells #[.map (some W0.heap.size)] 84) = W1 at hA0 hb1 ⊢
  have hrg1 := range_below HRG.out hb1
  have hbw1 := below_then HB0.out hb1 hlo
  have HA0 := Lib.hid hA0; have HRG1 := Lib.hid hrg1; have HBW1 := Lib.hid hbw1
  clear hW1 hn2 hn3 hs1 hs2 hA0 hb1 hrg1 hbw1
  have hg := ApI.goes (w0 := w) (Nm := W0.heap.size + 1 + 1) (Na := W0.heap.size + 1) (M := W0.heap.size) (by omega) hlo
  have HG := Lib.hid hg
  clear hg
  go_wp2_with (refine at_load rfl _ rfl N0 0 rfl HRG1.out ?_)
  refine (allApart_walk apB apS fewB w (ApP (W0.heap.size + 1) W0.heap.size) (W0.heap.size + 1 + 1) (W0.heap.size + 1) (ApI w (W0.heap.size + 1 + 1) (W0.heap.size + 1) W0.heap.size) HG.out (apart1_walk w _ _ _) (wts [t]) [t] _ 1 1 0 ([], none) _ (Nat.le_refl _) rfl (by unfold maxLen; omega)
    (fun W hW => row_one HT.out (hW.range (row_new rfl) (fun h => by have e1 := lt_of_block HA0.out.at_; have e2 := HA0.out.set.lt; rcases h with h | h <;> omega))) (below_then HBW1.out (box_new _) HBW1.out.size) HCC.out ⟨HA0.out.below (box_new _), by have h1 := HWT.out; rw [wts_cons, wts_nil]; simp; omega⟩).mono ?_
  rintro e w2 ⟨rfl, hi, ht⟩
  rw [HK1.out] at hi
  have hat := hi.1.at_
  have hb2 : Below w.heap.size w w2 := ht.below HG.out.low (below_then HBW1.out (box_new _) HBW1.out.size) (Nat.le_refl _)
  rw [HFO.out.2] at hat
  have cA : w2.cell? ⟨W0.heap.size + 1, 0, none⟩ = some (.int .i64 ((apartT t).getD 0)) := by simp [World.cell?, hat]
  have HB2 := Lib.hid hb2
  clear hi ht hb2 hat
  rw [HK1.out, HFO.out.1]
  generalize hX : apartT t = X at *
  have HX := Lib.hid hX
  clear hX
  go_wp2_with (fail)
  go_ret2
  exact ⟨by rw [HX.out]; rfl, HB2.out⟩
end Aterm
end Go.Proofs.YtolpdhkgkjnbfaaGreatDoor
namespace Go.Proofs.YtolpdhkgkjnbfaaGreatDoor
open Go.RowKit
set_option linter.unusedVariables false
namespace Term

/-- The blocks that a closure over block N may write: N, and rows of bytes behind it. -/
def Owns (N : Nat) (W : World) (b : Nat) : Prop := b = N ∨ (N < b ∧ ∃ cur, W.heap[b]? = some (.cells cur 5 (0, 0)))
theorem Owns.low {N : Nat} {W : World} {b : Nat} (h : Owns N W b) : N ≤ b := by rcases h with h | h <;> omega
/-- All other blocks stay. -/
structure Stays (N : Nat) (w w' : World) : Prop where
  os : w'.os = w.os
  tape : w'.tape = w.tape
  output : w'.output = w.output
  size : w.heap.size ≤ w'.heap.size
  block : ∀ b, b < w.heap.size → ¬ Owns N w b → w'.heap[b]? = w.heap[b]?
theorem Stays.refl (N : Nat) (w : World) : Stays N w w := ⟨rfl, rfl, rfl, Nat.le_refl _, fun _ _ _ => rfl⟩
theorem owns_back {N : Nat} {w w' : World} {b : Nat} (h : w'.heap[b]? = w.heap[b]?) (ho : Owns N w' b) : Owns N w b := by
  unfold Owns at *
  rw [h] at ho
  exact ho
theorem Stays.trans {N : Nat} {a b c : World} (h : Stays N a b) (k : Stays N b c) : Stays N a c :=
  ⟨k.os.trans h.os, k.tape.trans h.tape, k.output.trans h.output, Nat.le_trans h.size k.size, fun i hi hn => by
    have h1 := h.block i hi hn
    exact (k.block i (Nat.lt_of_lt_of_le hi h.size) (fun ho => hn (owns_back h1 ho))).trans h1⟩
theorem Stays.cell {N : Nat} {w w' : World} (h : Stays N w w') {p : Addr} (hp : p.block < w.heap.size) (ho : ¬ Owns N w p.block) : w'.cell? p = w.cell? p := World.cell?_of_block (h.block p.block hp ho)
theorem Stays.of_below {N : Nat} {w w' : World} (hb : Below w.heap.size w w') : Stays N w w' :=
  ⟨hb.os, hb.tape, hb.output, hb.size, fun i hi _ => hb.block i hi⟩
theorem Stays.alloc {N : Nat} {a w : World} (h : Stays N a w) (o : Obj) : Stays N a (w.alloc o) :=
  h.trans (Stays.of_below ((Below.refl _ _).alloc (Nat.le_refl _) o))
theorem Stays.drew {N : Nat} {a w : World} (h : Stays N a w) : Stays N a w.drew := ⟨h.os, h.tape, h.output, h.size, h.block⟩
/-- A store into N. -/
theorem Stays.set {N : Nat} {a w : World} (h : Stays N a w) (u : Value) : Stays N a (w.setCell ⟨N, 0, none⟩ u) :=
  h.trans ⟨rfl, rfl, rfl, by simp [World.setCell], fun i hi hn => Below.heap_setCell _ _ _ _ (fun e => hn (.inl e))⟩
theorem Stays.below {N B : Nat} {W w' : World} (hs : Stays N W w') (hB : B ≤ N) (hW : B ≤ W.heap.size) : Below B W w' :=
  ⟨hs.os, hs.tape, hs.output, hs.size, fun i hi => hs.block i (by omega) (fun h => by have := h.low; omega)⟩

/-- What is asked of a state's reading in memory. -/
structure Goes {σ : Type} (w0 : World) (N : Nat) (I : Nat → σ → World → Prop) : Prop where
  base : ∀ r s W, I r s W → Reads w0 W
  has : ∀ r s W, I r s W → N < W.heap.size
  keep : ∀ r s W W', I r s W → Below W.heap.size W W' → I r s W'
  less : ∀ r r' s W, I r s W → r' ≤ r → I r' s W

mutual
/-- All nodes, as far as they hold, each ahead of its kids'. -/
def foT {σ : Type} (B : σ → Tm → Bool) (S : σ → Tm → σ) : Tm → σ → Bool × σ
  | .node h l, s => if B s (.node h l) = true then foK B S l (S s (.node h l)) else (false, S s (.node h l))
def foK {σ : Type} (B : σ → Tm → Bool) (S : σ → Tm → σ) : List Tm → σ → Bool × σ
  | [], s => (true, s)
  | t :: ts, s => if (foT B S t s).1 = true then foK B S ts (foT B S t s).2 else (false, (foT B S t s).2)
end
section
variable {σ : Type} (B : σ → Tm → Bool) (S : σ → Tm → σ)
theorem foT_eq (t : Tm) (s : σ) : foT B S t s = if B s t = true then foK B S t.ks (S s t) else (false, S s t) := by cases t; unfold foT; rfl
theorem foK_nil (s : σ) : foK B S [] s = (true, s) := by unfold foK; rfl
theorem foK_cons (t : Tm) (ts : List Tm) (s : σ) : foK B S (t :: ts) s = if (foT B S t s).1 = true then foK B S ts (foT B S t s).2 else (false, (foT B S t s).2) := by conv => lhs; unfold foK
theorem foK_no {ts : List Tm} {j : Nat} {u : σ} (hj : j < ts.length) (h : B u (tget ts j) = false) : foK B S (ts.drop j) u = (false, S u (tget ts j)) := by
  rw [drop_tget ts j hj, foK_cons, foT_eq]
  simp [h]
theorem foK_kno {ts : List Tm} {j : Nat} {u : σ} (hj : j < ts.length) (h : B u (tget ts j) = true) (hk : (foK B S (tget ts j).ks (S u (tget ts j))).1 = false) : foK B S (ts.drop j) u = (false, (foK B S (tget ts j).ks (S u (tget ts j))).2) := by
  rw [drop_tget ts j hj, foK_cons, foT_eq, if_pos h, if_neg (by rw [hk]; exact Bool.false_ne_true)]
theorem foK_yes {ts : List Tm} {j : Nat} {u : σ} (hj : j < ts.length) (h : B u (tget ts j) = true) (hk : (foK B S (tget ts j).ks (S u (tget ts j))).1 = true) : foK B S (ts.drop j) u = foK B S (ts.drop (j + 1)) (foK B S (tget ts j).ks (S u (tget ts j))).2 := by
  rw [drop_tget ts j hj, foK_cons, foT_eq, if_pos h, if_pos hk]
end
theorem wts_drop (ts : List Tm) (j : Nat) (hj : j < ts.length) : wts (ts.drop j) = wts (tget ts j).ks + 1 + wts (ts.drop (j + 1)) := by
  rw [drop_tget ts j hj, wts_cons, wt_ks]

/-- How such a call ends. -/
def FoEnd {σ : Type} (N : Nat) (I : σ → World → Prop) (r : Bool × σ) (w : World) (e : Ending) (w' : World) : Prop := e = .returned (.bool r.1) ∧ (r.1 = true → I r.2 w') ∧ Stays N w w'
/-- What is asked of the closure. -/
def Steps {σ : Type} (c : Nat) (B : σ → Tm → Bool) (S : σ → Tm → σ) (w0 : World) (N K : Nat) (I : Nat → σ → World → Prop) : Prop :=
  ∀ r s W t h p l c', I (r + 1) s W → TmIs w0 h p l c' t → Calls Tryz.prog c #[.agg #[.int .u8 h.k, .int .u8 h.op, .int .i64 h.pl, .int .i64 h.n, .string h.name, .string h.arg, .string h.exn, .slice p l c'], .pointer (some ⟨K, 0, none⟩)] W (FoEnd N (I r) (B s t, S s t) W)
/-- The box of the round's term, behind the closure's call. -/
theorem box_stays {N : Nat} {wr W : World} {cs : Array Value} {ty : TypeId} (hN : N < wr.heap.size) (hty : ty ≠ 5) (hs : Stays N (wr.alloc (.cells cs ty)) W) (j : Nat) {v : Value} (hv : cs[j]? = some v) : W.cell? ⟨wr.heap.size, j, none⟩ = some v := by
  rw [hs.cell (p := ⟨wr.heap.size, j, none⟩) (by simp) (fun h => by
    rcases h with h | ⟨_, cur, h⟩
    · simp at h; omega
    · rw [heap_alloc_new wr (.cells cs ty)] at h
      simp at h
      exact hty h.2), World.cell?_alloc_mark, hv]

end Term
end Go.Proofs.YtolpdhkgkjnbfaaGreatDoor
namespace Go.Proofs.YtolpdhkgkjnbfaaGreatDoor
open Go.RowKit
set_option linter.unusedVariables false
namespace Term

set_option maxRecDepth 10000 in
set_option maxHeartbeats 6400000 in
theorem allMay_walk {σ : Type} (B : σ → Tm → Bool) (S : σ → Tm → σ) (w0 : World) (N K : Nat) (I : Nat → σ → World → Prop) (hI : Goes w0 N I) (hC : Steps 74 B S w0 N K I) :
    ∀ (m : Nat) (ts : List Tm) (p : Option Addr) (l d r : Nat) (s : σ) (w : World), wts ts ≤ m → ts.length = l → l ≤ maxLen → Kids w0 p ts → I (r + wts ts) s w →
    Calls Tryz.prog 73 #[.func (.func 74) #[] #[.pointer (some ⟨K, 0, none⟩)], .slice p l d] w (FoEnd N (I r) (foK B S ts s) w) := by
  have GI := Lib.hid hI; have GC := Lib.hid hC
  clear hI hC
  intro m
  induction m using Nat.strongRecOn with
  | _ m ih =>
    intro ts p l d r s w hm hl hlm hk hi
    unfold maxLen at hlm
    have HM := Lib.hid hm; have HL := Lib.hid hl; have HK := Lib.hid hk; have HI := Lib.hid hi; have IH := Lib.hid ih
    clear hm hl hk hi ih
    go_enter Tryz.func73, Tryz.ntmps73
    go_wp2_with (fail)
    go_loopw [6, 9] (fun _ i wr => ∃ (j : Nat) (u : σ), j ≤ l ∧ i = .int .i64 j ∧ Hid (foK B S ts s = foK B S (ts.drop j) u) ∧ Hid (I (r + wts (ts.drop j)) u wr) ∧ Hid (Stays N w wr)) (fun _ i _ => l - (intOf i).toNat)
    case atStart => exact ⟨0, s, Nat.zero_le _, rfl, Lib.hid (by rw [List.drop_zero]), Lib.hid (by rw [List.drop_zero]; exact HI.out), Lib.hid (Stays.refl _ _)⟩
    case round =>
      obtain ⟨j, u, hj, rfl, HF, HJ, HS⟩ := hrel
      by_cases hlt : j < l
      · have hjk : j < ts.length := by rw [HL.out]; exact hlt
        obtain ⟨b, o, q, c', rfl, hkid, c0, c1, c2, c3, c4, c5, c6, c7⟩ := HK.out.get j hjk
        have hB := GI.out.base _ _ _ HJ.out
        have hNw := GI.out.has _ _ _ HJ.out
        have e0 := hB _ _ c0
        have e1 := hB _ _ c1
        have e2 := hB _ _ c2
        have e3 := hB _ _ c3
        have e4 := hB _ _ c4
        have e5 := hB _ _ c5
        have e6 := hB _ _ c6
        have e7 := hB _ _ c7
        have hwd := wts_drop ts j hjk
        have hwm : wts (tget ts j).ks < wts ts := by have h1 := wts_get hjk; have h2 := wt_ks (tget ts j); omega
        have hin : I ((r + wts (ts.drop (j + 1))) + wts (tget ts j).ks + 1) u wr := GI.out.less _ _ _ _ HJ.out (by omega)
        have hstep := fun O : Obj => GI.out.keep _ _ _ _ hin ((Below.refl wr.heap.size wr).alloc (Nat.le_refl _) O)
        have HJK := Lib.hid hjk; have HKID := Lib.hid hkid; have HNW := Lib.hid hNw; have HWM := Lib.hid hwm; have HSTEP := Lib.hid hstep
        clear hjk hkid hB hNw c0 c1 c2 c3 c4 c5 c6 c7 hwd hwm hin hstep
        go_wp2_with (fail)
        refine (GC.out _ _ _ _ _ _ _ _ (HSTEP.out _) HKID.out).mono ?_
        rintro e w1 ⟨rfl, hi1, hs1⟩
        have b7 := box_stays HNW.out (by decide) hs1 7 rfl
        have HI1 := Lib.hid hi1
        have HS1 := Lib.hid ((HS.out.alloc _).trans hs1)
        clear hi1 hs1 e0 e1 e2 e3 e4 e5 e6 e7
        cases hb : B u (tget ts j)
        · have hno := foK_no B S HJK.out hb
          have HNO := Lib.hid hno; have HB := Lib.hid hb
          clear hno hb
          go_wp2
          go_ret
          exact ⟨ret_bool (by rw [HF.out, HNO.out]), (fun h => by rw [HF.out, HNO.out] at h; cases h), HS1.out⟩
        · have hi2 := HI1.out hb
          have HI2 := Lib.hid hi2; have HB := Lib.hid hb
          clear hi2 hb
          go_wp2_with (fail)
          refine (IH.out (wts (tget ts j).ks) (by have := HWM.out; have := HM.out; omega) (tget ts j).ks q _ c' (r + wts (ts.drop (j + 1))) _ _ (Nat.le_refl _) rfl (Nat.le_trans HKID.out.cap.1 HKID.out.cap.2) HKID.out.kids HI2.out).mono ?_
          rintro e w2 ⟨rfl, hi3, hs3⟩
          have HI3 := Lib.hid hi3
          have HS3 := Lib.hid (HS1.out.trans hs3)
          clear hi3 hs3 b7
          cases hk : (foK B S (tget ts j).ks (S u (tget ts j))).1
          · have hno := foK_kno B S HJK.out HB.out hk
            have HNO := Lib.hid hno; have HKB := Lib.hid hk
            clear hno hk
            go_wp2
            go_ret
            exact ⟨ret_bool (by rw [HF.out, HNO.out]), (fun h => by rw [HF.out, HNO.out] at h; cases h), HS3.out⟩
          · have hyes := foK_yes B S HJK.out HB.out hk
            have hi4 := HI3.out hk
            have HYES := Lib.hid hyes; have HI4 := Lib.hid hi4; have HKB := Lib.hid hk
            clear hyes hi4 hk
            go_wp2
            go_roundw
            case rel => exact ⟨j + 1, _, by omega, by go_num, Lib.hid (HF.out.trans HYES.out), HI4, HS3⟩
            case measure => simp [intOf]; omega
      · obtain rfl : j = l := by omega
        have hr := HF.out
        have hi := HJ.out
        rw [List.drop_eq_nil_of_le (by rw [HL.out]; exact Nat.le_refl _)] at hr hi
        rw [foK_nil] at hr
        rw [wts_nil] at hi
        have HR := Lib.hid hr; have HI2 := Lib.hid hi
        clear hr hi
        go_wp2
        go_ret
        exact ⟨ret_bool (by rw [HR.out]), (fun _ => by rw [HR.out]; exact HI2.out), HS.out⟩

end Term
end Go.Proofs.YtolpdhkgkjnbfaaGreatDoor

namespace Go.Proofs.YtolpdhkgkjnbfaaGreatDoor
open Go.RowKit
set_option linter.unusedVariables false
namespace Term
open Words (str_no str_yes)

theorem toList_inj {a b : ByteArray} (h : a.toList = b.toList) : a = b := by
  apply Classical.byContradiction
  intro hn
  have := str_no hn
  rw [h] at this
  simp at this
end Term
end Go.Proofs.YtolpdhkgkjnbfaaGreatDoor
namespace Go.Proofs.YtolpdhkgkjnbfaaGreatDoor
open Go.RowKit
set_option linter.unusedVariables false
namespace Term

/-- Just these fields, and so many kids? -/
def justP (h f : Hd) (l : Nat) (kids : Int) : Prop := 0 ≤ h.pl ∧ h.op = f.op ∧ h.n = f.n ∧ h.name = f.name ∧ h.arg = f.arg ∧ h.exn = f.exn ∧ (l : Int) = kids
instance (h f : Hd) (l : Nat) (kids : Int) : Decidable (justP h f l kids) := by unfold justP; infer_instance
def justB (h f : Hd) (l : Nat) (kids : Int) : Bool := decide (justP h f l kids)
theorem just_of {k op pl nn op' nn' kids : Int} {nm ar ex nm' ar' ex' : ByteArray} {fk fp : Int} {l : Nat} (h1 : 0 ≤ pl) (h2 : op = op') (h3 : nn = nn') (h4 : nm.toList = nm'.toList) (h5 : ar.toList = ar'.toList) (h6 : ex.toList = ex'.toList) (h7 : (l : Int) = kids) :
    justP ⟨k, op, pl, nn, nm, ar, ex⟩ ⟨fk, op', fp, nn', nm', ar', ex'⟩ l kids := ⟨h1, h2, h3, toList_inj h4, toList_inj h5, toList_inj h6, h7⟩

set_option maxRecDepth 100000 in
set_option maxHeartbeats 6400000 in
theorem just_walk (h f : Hd) (p : Option Addr) (l c : Nat) (kids : Int) (w : World) (hl : l ≤ maxLen) :
    Calls Tryz.prog 93 #[.agg #[.int .u8 h.k, .int .u8 h.op, .int .i64 h.pl, .int .i64 h.n, .string h.name, .string h.arg, .string h.exn, .slice p l c], .int .i64 kids,
      .agg #[.int .u8 f.k, .int .u8 f.op, .int .i64 f.pl, .int .i64 f.n, .string f.name, .string f.arg, .string f.exn]] w fun e w' => e = .returned (.bool (justB h f l kids)) ∧ Below w.heap.size w w' := by
  unfold maxLen at hl
  obtain ⟨k, op, pl, nn, nm, ar, ex⟩ := h
  obtain ⟨fk, op', fp, nn', nm', ar', ex'⟩ := f
  have hbox : ∀ O O' : Obj, Below w.heap.size w ((w.alloc O).alloc O').drew := fun O O' => (((Below.refl _ _).alloc (Nat.le_refl _) O).alloc (by simp) O').drew
  have HBOX := Lib.hid hbox
  clear hbox
  by_cases hj : justP ⟨k, op, pl, nn, nm, ar, ex⟩ ⟨fk, op', fp, nn', nm', ar', ex'⟩ l kids
  · have hr : justB ⟨k, op, pl, nn, nm, ar, ex⟩ ⟨fk, op', fp, nn', nm', ar', ex'⟩ l kids = true := decide_eq_true hj
    have HR := Lib.hid hr
    unfold justP at hj
    simp only at hj
    clear hr
    obtain ⟨hp, rfl, rfl, rfl, rfl, rfl, rfl⟩ := hj
    go_enter Tryz.func93, Tryz.ntmps93
    go_wp2_with (fail)
    go_region
    all_goals go_wp2_with (fail)
    all_goals go_ret
    all_goals exact ⟨ret_bool HR.out.symm, HBOX.out _ _⟩
  · have hr : justB ⟨k, op, pl, nn, nm, ar, ex⟩ ⟨fk, op', fp, nn', nm', ar', ex'⟩ l kids = false := decide_eq_false hj
    have HR := Lib.hid hr; have HJ := Lib.hid hj
    clear hr hj
    go_enter Tryz.func93, Tryz.ntmps93
    go_wp2_with (fail)
    go_region
    all_goals go_wp2_with (fail)
    all_goals go_ret
    all_goals first
      | exact ⟨ret_bool HR.out.symm, HBOX.out _ _⟩
      | exact ⟨ret_bool ((beq_eq_false_iff_ne.2 fun e => HJ.out (just_of (by assumption) (by assumption) (by assumption) (by assumption) (by assumption) (by assumption) e)).trans HR.out.symm), HBOX.out _ _⟩
end Term
end Go.Proofs.YtolpdhkgkjnbfaaGreatDoor
namespace Go.Proofs.YtolpdhkgkjnbfaaGreatDoor
open Go.RowKit
set_option linter.unusedVariables false
namespace Term
open Words (nameB exnB)

theorem fitsB_none (s : ByteArray) (ok : Bool) : fitsB false s ok = decide (s = ⟨#[]⟩) := by
  unfold fitsB
  rw [if_neg Bool.false_ne_true, decide_eq_decide]
  constructor
  · intro h
    obtain ⟨⟨l⟩⟩ := s
    have : l.length = 0 := h
    rw [List.length_eq_zero_iff.1 this]
  · intro h; rw [h]; rfl
theorem fitsB_there (s : ByteArray) (ok : Bool) : fitsB true s ok = ok := by unfold fitsB; rw [if_pos rfl]
theorem node_is1 (op pl nn : Int) (nm ar ex : ByteArray) (l : Nat) : nodeB ⟨1, op, pl, nn, nm, ar, ex⟩ l = (justB ⟨1, op, pl, nn, nm, ar, ex⟩ ⟨0, 0, 0, nn, ⟨#[]⟩, ⟨#[]⟩, ⟨#[]⟩⟩ l 0 && decide (0 ≤ nn ∧ nn ≤ 2147483647)) := by
  have hk : kidsN 1 = 0 := by decide
  have h1 : nameF 1 = false := by decide
  have h2 : argF 1 = false := by decide
  have h3 : exnF 1 = false := by decide
  unfold nodeB justB justP opOk nOk
  simp only [hk, h1, h2, h3, fitsB_none]
  rw [Bool.eq_iff_iff]
  simp only [Bool.and_eq_true, decide_eq_true_eq]
  generalize nameB nm = x1
  generalize nameB ar = x2
  generalize exnB ex = x3
  grind
theorem node_is2 (op pl nn : Int) (nm ar ex : ByteArray) (l : Nat) : nodeB ⟨2, op, pl, nn, nm, ar, ex⟩ l = (justB ⟨2, op, pl, nn, nm, ar, ex⟩ ⟨0, 0, 0, 0, nm, ⟨#[]⟩, ⟨#[]⟩⟩ l 0 && nameB nm) := by
  have hk : kidsN 2 = 0 := by decide
  have h1 : nameF 2 = true := by decide
  have h2 : argF 2 = false := by decide
  have h3 : exnF 2 = false := by decide
  unfold nodeB justB justP opOk nOk
  simp only [hk, h1, h2, h3, fitsB_none, fitsB_there]
  rw [Bool.eq_iff_iff]
  simp only [Bool.and_eq_true, decide_eq_true_eq]
  generalize nameB nm = x1
  generalize nameB ar = x2
  generalize exnB ex = x3
  grind
theorem node_is3 (op pl nn : Int) (nm ar ex : ByteArray) (l : Nat) : nodeB ⟨3, op, pl, nn, nm, ar, ex⟩ l = (justB ⟨3, op, pl, nn, nm, ar, ex⟩ ⟨0, 0, 0, 0, ⟨#[]⟩, ⟨#[]⟩, ⟨#[]⟩⟩ l 2) := by
  have hk : kidsN 3 = 2 := by decide
  have h1 : nameF 3 = false := by decide
  have h2 : argF 3 = false := by decide
  have h3 : exnF 3 = false := by decide
  unfold nodeB justB justP opOk nOk
  simp only [hk, h1, h2, h3, fitsB_none]
  rw [Bool.eq_iff_iff]
  simp only [Bool.and_eq_true, decide_eq_true_eq]
  generalize nameB nm = x1
  generalize nameB ar = x2
  generalize exnB ex = x3
  grind
theorem node_is4 (op pl nn : Int) (nm ar ex : ByteArray) (l : Nat) : nodeB ⟨4, op, pl, nn, nm, ar, ex⟩ l = (justB ⟨4, op, pl, nn, nm, ar, ex⟩ ⟨0, 0, 0, 0, ⟨#[]⟩, ⟨#[]⟩, ⟨#[]⟩⟩ l 1) := by
  have hk : kidsN 4 = 1 := by decide
  have h1 : nameF 4 = false := by decide
  have h2 : argF 4 = false := by decide
  have h3 : exnF 4 = false := by decide
  unfold nodeB justB justP opOk nOk
  simp only [hk, h1, h2, h3, fitsB_none]
  rw [Bool.eq_iff_iff]
  simp only [Bool.and_eq_true, decide_eq_true_eq]
  generalize nameB nm = x1
  generalize nameB ar = x2
  generalize exnB ex = x3
  grind
theorem node_is5 (op pl nn : Int) (nm ar ex : ByteArray) (l : Nat) : nodeB ⟨5, op, pl, nn, nm, ar, ex⟩ l = (justB ⟨5, op, pl, nn, nm, ar, ex⟩ ⟨0, 0, 0, 0, ⟨#[]⟩, ⟨#[]⟩, ⟨#[]⟩⟩ l 1) := by
  have hk : kidsN 5 = 1 := by decide
  have h1 : nameF 5 = false := by decide
  have h2 : argF 5 = false := by decide
  have h3 : exnF 5 = false := by decide
  unfold nodeB justB justP opOk nOk
  simp only [hk, h1, h2, h3, fitsB_none]
  rw [Bool.eq_iff_iff]
  simp only [Bool.and_eq_true, decide_eq_true_eq]
  generalize nameB nm = x1
  generalize nameB ar = x2
  generalize exnB ex = x3
  grind
theorem node_is6 (op pl nn : Int) (nm ar ex : ByteArray) (l : Nat) : nodeB ⟨6, op, pl, nn, nm, ar, ex⟩ l = (justB ⟨6, op, pl, nn, nm, ar, ex⟩ ⟨0, 0, 0, 0, ⟨#[]⟩, ⟨#[]⟩, ⟨#[]⟩⟩ l 1) := by
  have hk : kidsN 6 = 1 := by decide
  have h1 : nameF 6 = false := by decide
  have h2 : argF 6 = false := by decide
  have h3 : exnF 6 = false := by decide
  unfold nodeB justB justP opOk nOk
  simp only [hk, h1, h2, h3, fitsB_none]
  rw [Bool.eq_iff_iff]
  simp only [Bool.and_eq_true, decide_eq_true_eq]
  generalize nameB nm = x1
  generalize nameB ar = x2
  generalize exnB ex = x3
  grind
theorem node_is7 (op pl nn : Int) (nm ar ex : ByteArray) (l : Nat) : nodeB ⟨7, op, pl, nn, nm, ar, ex⟩ l = (justB ⟨7, op, pl, nn, nm, ar, ex⟩ ⟨0, 0, 0, 0, ⟨#[]⟩, ⟨#[]⟩, ⟨#[]⟩⟩ l 1) := by
  have hk : kidsN 7 = 1 := by decide
  have h1 : nameF 7 = false := by decide
  have h2 : argF 7 = false := by decide
  have h3 : exnF 7 = false := by decide
  unfold nodeB justB justP opOk nOk
  simp only [hk, h1, h2, h3, fitsB_none]
  rw [Bool.eq_iff_iff]
  simp only [Bool.and_eq_true, decide_eq_true_eq]
  generalize nameB nm = x1
  generalize nameB ar = x2
  generalize exnB ex = x3
  grind
theorem node_is8 (op pl nn : Int) (nm ar ex : ByteArray) (l : Nat) : nodeB ⟨8, op, pl, nn, nm, ar, ex⟩ l = (justB ⟨8, op, pl, nn, nm, ar, ex⟩ ⟨0, 0, 0, 0, ⟨#[]⟩, ⟨#[]⟩, ⟨#[]⟩⟩ l 2) := by
  have hk : kidsN 8 = 2 := by decide
  have h1 : nameF 8 = false := by decide
  have h2 : argF 8 = false := by decide
  have h3 : exnF 8 = false := by decide
  unfold nodeB justB justP opOk nOk
  simp only [hk, h1, h2, h3, fitsB_none]
  rw [Bool.eq_iff_iff]
  simp only [Bool.and_eq_true, decide_eq_true_eq]
  generalize nameB nm = x1
  generalize nameB ar = x2
  generalize exnB ex = x3
  grind
theorem node_is9 (op pl nn : Int) (nm ar ex : ByteArray) (l : Nat) : nodeB ⟨9, op, pl, nn, nm, ar, ex⟩ l = (justB ⟨9, op, pl, nn, nm, ar, ex⟩ ⟨0, op, 0, 0, ⟨#[]⟩, ⟨#[]⟩, ⟨#[]⟩⟩ l 2 && decide (1 ≤ op ∧ op ≤ 5)) := by
  have hk : kidsN 9 = 2 := by decide
  have h1 : nameF 9 = false := by decide
  have h2 : argF 9 = false := by decide
  have h3 : exnF 9 = false := by decide
  unfold nodeB justB justP opOk nOk
  simp only [hk, h1, h2, h3, fitsB_none]
  rw [Bool.eq_iff_iff]
  simp only [Bool.and_eq_true, decide_eq_true_eq]
  generalize nameB nm = x1
  generalize nameB ar = x2
  generalize exnB ex = x3
  grind
theorem node_is10 (op pl nn : Int) (nm ar ex : ByteArray) (l : Nat) : nodeB ⟨10, op, pl, nn, nm, ar, ex⟩ l = (justB ⟨10, op, pl, nn, nm, ar, ex⟩ ⟨0, 0, 0, 0, ⟨#[]⟩, ⟨#[]⟩, ⟨#[]⟩⟩ l 2) := by
  have hk : kidsN 10 = 2 := by decide
  have h1 : nameF 10 = false := by decide
  have h2 : argF 10 = false := by decide
  have h3 : exnF 10 = false := by decide
  unfold nodeB justB justP opOk nOk
  simp only [hk, h1, h2, h3, fitsB_none]
  rw [Bool.eq_iff_iff]
  simp only [Bool.and_eq_true, decide_eq_true_eq]
  generalize nameB nm = x1
  generalize nameB ar = x2
  generalize exnB ex = x3
  grind
theorem node_is11 (op pl nn : Int) (nm ar ex : ByteArray) (l : Nat) : nodeB ⟨11, op, pl, nn, nm, ar, ex⟩ l = (justB ⟨11, op, pl, nn, nm, ar, ex⟩ ⟨0, 0, 0, 0, ⟨#[]⟩, ar, ⟨#[]⟩⟩ l 1 && nameB ar) := by
  have hk : kidsN 11 = 1 := by decide
  have h1 : nameF 11 = false := by decide
  have h2 : argF 11 = true := by decide
  have h3 : exnF 11 = false := by decide
  unfold nodeB justB justP opOk nOk
  simp only [hk, h1, h2, h3, fitsB_none, fitsB_there]
  rw [Bool.eq_iff_iff]
  simp only [Bool.and_eq_true, decide_eq_true_eq]
  generalize nameB nm = x1
  generalize nameB ar = x2
  generalize exnB ex = x3
  grind
theorem node_is12 (op pl nn : Int) (nm ar ex : ByteArray) (l : Nat) : nodeB ⟨12, op, pl, nn, nm, ar, ex⟩ l = (justB ⟨12, op, pl, nn, nm, ar, ex⟩ ⟨0, 0, 0, 0, nm, ⟨#[]⟩, ⟨#[]⟩⟩ l 2 && nameB nm) := by
  have hk : kidsN 12 = 2 := by decide
  have h1 : nameF 12 = true := by decide
  have h2 : argF 12 = false := by decide
  have h3 : exnF 12 = false := by decide
  unfold nodeB justB justP opOk nOk
  simp only [hk, h1, h2, h3, fitsB_none, fitsB_there]
  rw [Bool.eq_iff_iff]
  simp only [Bool.and_eq_true, decide_eq_true_eq]
  generalize nameB nm = x1
  generalize nameB ar = x2
  generalize exnB ex = x3
  grind
theorem node_is13 (op pl nn : Int) (nm ar ex : ByteArray) (l : Nat) : nodeB ⟨13, op, pl, nn, nm, ar, ex⟩ l = (justB ⟨13, op, pl, nn, nm, ar, ex⟩ ⟨0, 0, 0, 0, nm, ar, ⟨#[]⟩⟩ l 2 && (nameB nm && nameB ar)) := by
  have hk : kidsN 13 = 2 := by decide
  have h1 : nameF 13 = true := by decide
  have h2 : argF 13 = true := by decide
  have h3 : exnF 13 = false := by decide
  unfold nodeB justB justP opOk nOk
  simp only [hk, h1, h2, h3, fitsB_none, fitsB_there]
  rw [Bool.eq_iff_iff]
  simp only [Bool.and_eq_true, decide_eq_true_eq]
  generalize nameB nm = x1
  generalize nameB ar = x2
  generalize exnB ex = x3
  grind
theorem node_is14 (op pl nn : Int) (nm ar ex : ByteArray) (l : Nat) : nodeB ⟨14, op, pl, nn, nm, ar, ex⟩ l = (justB ⟨14, op, pl, nn, nm, ar, ex⟩ ⟨0, 0, 0, 0, ⟨#[]⟩, ⟨#[]⟩, ⟨#[]⟩⟩ l 3) := by
  have hk : kidsN 14 = 3 := by decide
  have h1 : nameF 14 = false := by decide
  have h2 : argF 14 = false := by decide
  have h3 : exnF 14 = false := by decide
  unfold nodeB justB justP opOk nOk
  simp only [hk, h1, h2, h3, fitsB_none]
  rw [Bool.eq_iff_iff]
  simp only [Bool.and_eq_true, decide_eq_true_eq]
  generalize nameB nm = x1
  generalize nameB ar = x2
  generalize exnB ex = x3
  grind
theorem node_is15 (op pl nn : Int) (nm ar ex : ByteArray) (l : Nat) : nodeB ⟨15, op, pl, nn, nm, ar, ex⟩ l = (justB ⟨15, op, pl, nn, nm, ar, ex⟩ ⟨0, 0, 0, 0, ⟨#[]⟩, ⟨#[]⟩, ex⟩ l 1 && exnB ex) := by
  have hk : kidsN 15 = 1 := by decide
  have h1 : nameF 15 = false := by decide
  have h2 : argF 15 = false := by decide
  have h3 : exnF 15 = true := by decide
  unfold nodeB justB justP opOk nOk
  simp only [hk, h1, h2, h3, fitsB_none, fitsB_there]
  rw [Bool.eq_iff_iff]
  simp only [Bool.and_eq_true, decide_eq_true_eq]
  generalize nameB nm = x1
  generalize nameB ar = x2
  generalize exnB ex = x3
  grind
theorem node_is16 (op pl nn : Int) (nm ar ex : ByteArray) (l : Nat) : nodeB ⟨16, op, pl, nn, nm, ar, ex⟩ l = (justB ⟨16, op, pl, nn, nm, ar, ex⟩ ⟨0, 0, 0, 0, ⟨#[]⟩, ar, ex⟩ l 2 && (exnB ex && nameB ar)) := by
  have hk : kidsN 16 = 2 := by decide
  have h1 : nameF 16 = false := by decide
  have h2 : argF 16 = true := by decide
  have h3 : exnF 16 = true := by decide
  unfold nodeB justB justP opOk nOk
  simp only [hk, h1, h2, h3, fitsB_none, fitsB_there]
  rw [Bool.eq_iff_iff]
  simp only [Bool.and_eq_true, decide_eq_true_eq]
  generalize nameB nm = x1
  generalize nameB ar = x2
  generalize exnB ex = x3
  grind
theorem node_none {k : Int} (hk : k < 1 ∨ 16 < k) (op pl nn : Int) (nm ar ex : ByteArray) (l : Nat) : nodeB ⟨k, op, pl, nn, nm, ar, ex⟩ l = false :=
  nodeB_no (fun h => by have h1 := kidsN_none hk; have h2 := h.1; simp only at h2; omega)
theorem strs_two (w : World) (t : Nat) (s s' : ByteArray) : Words.StrsAt (w.alloc (.cells #[.string s, .string s'] t)) (some ⟨w.heap.size, 0, none⟩) [s, s'] := by
  refine .inr ⟨w.heap.size, 0, rfl, fun i hi => ?_⟩
  have : i = 0 ∨ i = 1 := by simp at hi; omega
  rcases this with rfl | rfl <;> simp [go_sem, Words.sel]
/-- Of two texts. -/
theorem name_two (s s' : ByteArray) (t : Nat) (w : World) (hs : s.size ≤ maxLen) (hs' : s'.size ≤ maxLen) (hl : Words.KwLaid w) :
    Calls Tryz.prog 94 #[.slice (some ⟨w.heap.size, 0, none⟩) 2 2] (w.alloc (.cells #[.string s, .string s'] t)) fun e w' => e = .returned (.bool (nameB s && nameB s')) ∧ Below w.heap.size w w' := by
  have hb0 : Below w.heap.size w (w.alloc (.cells #[.string s, .string s'] t)) := (Below.refl _ _).alloc (Nat.le_refl _) _
  refine (Words.name_walk _ 2 2 [s, s'] _ rfl (by unfold maxLen; omega) (strs_two w t s s') (fun x hx => by simp at hx; rcases hx with rfl | rfl <;> assumption) (hl.below hb0)).mono ?_
  rintro e w' ⟨rfl, hb⟩
  exact ⟨ret_bool (by simp), hb0.trans (hb.mono hb0.size)⟩
end Term
end Go.Proofs.YtolpdhkgkjnbfaaGreatDoor
namespace Go.Proofs.YtolpdhkgkjnbfaaGreatDoor
open Go.RowKit
set_option linter.unusedVariables false
namespace Term
open Words (nameB exnB)

set_option maxRecDepth 100000 in
set_option maxHeartbeats 6400000 in
theorem fits_1 (op pl nn : Int) (nm ar ex : ByteArray) (p : Option Addr) (l c : Nat) (w : World) (hop : 0 ≤ op ∧ op ≤ 255) (hl : l ≤ maxLen) (hs4 : nm.size ≤ maxLen) (hs5 : ar.size ≤ maxLen) (hs6 : ex.size ≤ maxLen) (hkw : Words.KwLaid w) :
    Calls Tryz.prog 75 #[.agg #[.int .u8 1, .int .u8 op, .int .i64 pl, .int .i64 nn, .string nm, .string ar, .string ex, .slice p l c]] w fun e w' => e = .returned (.bool (nodeB ⟨1, op, pl, nn, nm, ar, ex⟩ l)) ∧ Below w.heap.size w w' := by
  have hn := node_is1 op pl nn nm ar ex l
  have hj := fun W => just_walk ⟨1, op, pl, nn, nm, ar, ex⟩ ⟨0, 0, 0, nn, ⟨#[]⟩, ⟨#[]⟩, ⟨#[]⟩⟩ p l c 0 W hl
  have hbox : ∀ O : Obj, Below w.heap.size w (w.alloc O) := fun O => (Below.refl _ _).alloc (Nat.le_refl _) O
  generalize hJ : justB ⟨1, op, pl, nn, nm, ar, ex⟩ ⟨0, 0, 0, nn, ⟨#[]⟩, ⟨#[]⟩, ⟨#[]⟩⟩ l 0 = J at *
  have HNO := Lib.hid hn; have HBOX := Lib.hid hbox; have JW := Lib.hid hj; have HKW := Lib.hid hkw; have HS4 := Lib.hid hs4; have HS5 := Lib.hid hs5; have HS6 := Lib.hid hs6; have HJ := Lib.hid hJ
  clear hn hbox hj hkw hs4 hs5 hs6 hl hJ
  go_enter Tryz.func75, Tryz.ntmps75
  go_wp2_with (fail)
  refine (JW.out _).mono ?_
  rintro e w1 ⟨rfl, hb1⟩
  have b3 := boxAt hb1 3 rfl
  have HB1 := Lib.hid ((HBOX.out _).trans (hb1.mono (HBOX.out _).size)); clear hb1
  cases J
  · go_wp2
    go_ret
    exact ⟨ret_bool (by rw [HNO.out]; rfl), HB1.out⟩
  · by_cases h0 : 0 ≤ nn
    · by_cases h1 : nn ≤ 2147483647
      · go_wp2
        go_ret
        exact ⟨ret_bool (by rw [HNO.out, decide_eq_true (And.intro h0 h1)]; rfl), HB1.out⟩
      · have h2 : decide (nn ≤ 2147483647) = false := decide_eq_false h1
        have hf : decide (0 ≤ nn ∧ nn ≤ 2147483647) = false := decide_eq_false (fun h => h1 h.2)
        have HF := Lib.hid hf
        clear hf
        go_wp2
        go_ret
        exact ⟨ret_bool (by rw [HNO.out, HF.out]; rfl), HB1.out⟩
    · have h2 : decide (0 ≤ nn) = false := decide_eq_false h0
      have hf : decide (0 ≤ nn ∧ nn ≤ 2147483647) = false := decide_eq_false (fun h => h0 h.1)
      have HF := Lib.hid hf
      clear hf
      go_wp2
      go_ret
      exact ⟨ret_bool (by rw [HNO.out, HF.out]; rfl), HB1.out⟩

set_option maxRecDepth 100000 in
set_option maxHeartbeats 6400000 in
theorem fits_2 (op pl nn : Int) (nm ar ex : ByteArray) (p : Option Addr) (l c : Nat) (w : World) (hop : 0 ≤ op ∧ op ≤ 255) (hl : l ≤ maxLen) (hs4 : nm.size ≤ maxLen) (hs5 : ar.size ≤ maxLen) (hs6 : ex.size ≤ maxLen) (hkw : Words.KwLaid w) :
    Calls Tryz.prog 75 #[.agg #[.int .u8 2, .int .u8 op, .int .i64 pl, .int .i64 nn, .string nm, .string ar, .string ex, .slice p l c]] w fun e w' => e = .returned (.bool (nodeB ⟨2, op, pl, nn, nm, ar, ex⟩ l)) ∧ Below w.heap.size w w' := by
  have hn := node_is2 op pl nn nm ar ex l
  have hj := fun W => just_walk ⟨2, op, pl, nn, nm, ar, ex⟩ ⟨0, 0, 0, 0, nm, ⟨#[]⟩, ⟨#[]⟩⟩ p l c 0 W hl
  have hbox : ∀ O : Obj, Below w.heap.size w (w.alloc O) := fun O => (Below.refl _ _).alloc (Nat.le_refl _) O
  generalize hJ : justB ⟨2, op, pl, nn, nm, ar, ex⟩ ⟨0, 0, 0, 0, nm, ⟨#[]⟩, ⟨#[]⟩⟩ l 0 = J at *
  have HNO := Lib.hid hn; have HBOX := Lib.hid hbox; have JW := Lib.hid hj; have HKW := Lib.hid hkw; have HS4 := Lib.hid hs4; have HS5 := Lib.hid hs5; have HS6 := Lib.hid hs6; have HJ := Lib.hid hJ
  clear hn hbox hj hkw hs4 hs5 hs6 hl hJ
  go_enter Tryz.func75, Tryz.ntmps75
  go_wp2_with (fail)
  refine (JW.out _).mono ?_
  rintro e w1 ⟨rfl, hb1⟩
  have b4 := boxAt hb1 4 rfl
  have HB1 := Lib.hid ((HBOX.out _).trans (hb1.mono (HBOX.out _).size)); clear hb1
  cases J
  · go_wp2
    go_ret
    exact ⟨ret_bool (by rw [HNO.out]; rfl), HB1.out⟩
  · go_wp2_with (fail)
    refine (Words.name_at nm _ _ _ rfl HS4.out (HKW.out.below HB1.out)).mono ?_
    rintro e w2 ⟨rfl, hb2⟩
    have HB2 := Lib.hid (HB1.out.trans (hb2.mono HB1.out.size)); clear hb2
    cases hx : nameB nm
    all_goals
      have HX := Lib.hid hx
      clear hx
      go_wp2
      go_ret
      exact ⟨ret_bool (by rw [HNO.out, HX.out]; rfl), HB2.out⟩

set_option maxRecDepth 100000 in
set_option maxHeartbeats 6400000 in
theorem fits_3 (op pl nn : Int) (nm ar ex : ByteArray) (p : Option Addr) (l c : Nat) (w : World) (hop : 0 ≤ op ∧ op ≤ 255) (hl : l ≤ maxLen) (hs4 : nm.size ≤ maxLen) (hs5 : ar.size ≤ maxLen) (hs6 : ex.size ≤ maxLen) (hkw : Words.KwLaid w) :
    Calls Tryz.prog 75 #[.agg #[.int .u8 3, .int .u8 op, .int .i64 pl, .int .i64 nn, .string nm, .string ar, .string ex, .slice p l c]] w fun e w' => e = .returned (.bool (nodeB ⟨3, op, pl, nn, nm, ar, ex⟩ l)) ∧ Below w.heap.size w w' := by
  have hn := node_is3 op pl nn nm ar ex l
  have hj := fun W => just_walk ⟨3, op, pl, nn, nm, ar, ex⟩ ⟨0, 0, 0, 0, ⟨#[]⟩, ⟨#[]⟩, ⟨#[]⟩⟩ p l c 2 W hl
  have hbox : ∀ O : Obj, Below w.heap.size w (w.alloc O) := fun O => (Below.refl _ _).alloc (Nat.le_refl _) O
  generalize hJ : justB ⟨3, op, pl, nn, nm, ar, ex⟩ ⟨0, 0, 0, 0, ⟨#[]⟩, ⟨#[]⟩, ⟨#[]⟩⟩ l 2 = J at *
  have HNO := Lib.hid hn; have HBOX := Lib.hid hbox; have JW := Lib.hid hj; have HKW := Lib.hid hkw; have HS4 := Lib.hid hs4; have HS5 := Lib.hid hs5; have HS6 := Lib.hid hs6; have HJ := Lib.hid hJ
  clear hn hbox hj hkw hs4 hs5 hs6 hl hJ
  go_enter Tryz.func75, Tryz.ntmps75
  go_wp2_with (fail)
  refine (JW.out _).mono ?_
  rintro e w1 ⟨rfl, hb1⟩
  have HB1 := Lib.hid ((HBOX.out _).trans (hb1.mono (HBOX.out _).size)); clear hb1
  cases J
  · go_wp2
    go_ret
    exact ⟨ret_bool (by rw [HNO.out]), HB1.out⟩
  · go_wp2
    go_ret
    exact ⟨ret_bool (by rw [HNO.out]), HB1.out⟩

set_option maxRecDepth 100000 in
set_option maxHeartbeats 6400000 in
theorem fits_4 (op pl nn : Int) (nm ar ex : ByteArray) (p : Option Addr) (l c : Nat) (w : World) (hop : 0 ≤ op ∧ op ≤ 255) (hl : l ≤ maxLen) (hs4 : nm.size ≤ maxLen) (hs5 : ar.size ≤ maxLen) (hs6 : ex.size ≤ maxLen) (hkw : Words.KwLaid w) :
    Calls Tryz.prog 75 #[.agg #[.int .u8 4, .int .u8 op, .int .i64 pl, .int .i64 nn, .string nm, .string ar, .string ex, .slice p l c]] w fun e w' => e = .returned (.bool (nodeB ⟨4, op, pl, nn, nm, ar, ex⟩ l)) ∧ Below w.heap.size w w' := by
  have hn := node_is4 op pl nn nm ar ex l
  have hj := fun W => just_walk ⟨4, op, pl, nn, nm, ar, ex⟩ ⟨0, 0, 0, 0, ⟨#[]⟩, ⟨#[]⟩, ⟨#[]⟩⟩ p l c 1 W hl
  have hbox : ∀ O : Obj, Below w.heap.size w (w.alloc O) := fun O => (Below.refl _ _).alloc (Nat.le_refl _) O
  generalize hJ : justB ⟨4, op, pl, nn, nm, ar, ex⟩ ⟨0, 0, 0, 0, ⟨#[]⟩, ⟨#[]⟩, ⟨#[]⟩⟩ l 1 = J at *
  have HNO := Lib.hid hn; have HBOX := Lib.hid hbox; have JW := Lib.hid hj; have HKW := Lib.hid hkw; have HS4 := Lib.hid hs4; have HS5 := Lib.hid hs5; have HS6 := Lib.hid hs6; have HJ := Lib.hid hJ
  clear hn hbox hj hkw hs4 hs5 hs6 hl hJ
  go_enter Tryz.func75, Tryz.ntmps75
  go_wp2_with (fail)
  refine (JW.out _).mono ?_
  rintro e w1 ⟨rfl, hb1⟩
  have HB1 := Lib.hid ((HBOX.out _).trans (hb1.mono (HBOX.out _).size)); clear hb1
  cases J
  · go_wp2
    go_ret
    exact ⟨ret_bool (by rw [HNO.out]), HB1.out⟩
  · go_wp2
    go_ret
    exact ⟨ret_bool (by rw [HNO.out]), HB1.out⟩

set_option maxRecDepth 100000 in
set_option maxHeartbeats 6400000 in
theorem fits_5 (op pl nn : Int) (nm ar ex : ByteArray) (p : Option Addr) (l c : Nat) (w : World) (hop : 0 ≤ op ∧ op ≤ 255) (hl : l ≤ maxLen) (hs4 : nm.size ≤ maxLen) (hs5 : ar.size ≤ maxLen) (hs6 : ex.size ≤ maxLen) (hkw : Words.KwLaid w) :
    Calls Tryz.prog 75 #[.agg #[.int .u8 5, .int .u8 op, .int .i64 pl, .int .i64 nn, .string nm, .string ar, .string ex, .slice p l c]] w fun e w' => e = .returned (.bool (nodeB ⟨5, op, pl, nn, nm, ar, ex⟩ l)) ∧ Below w.heap.size w w' := by
  have hn := node_is5 op pl nn nm ar ex l
  have hj := fun W => just_walk ⟨5, op, pl, nn, nm, ar, ex⟩ ⟨0, 0, 0, 0, ⟨#[]⟩, ⟨#[]⟩, ⟨#[]⟩⟩ p l c 1 W hl
  have hbox : ∀ O : Obj, Below w.heap.size w (w.alloc O) := fun O => (Below.refl _ _).alloc (Nat.le_refl _) O
  generalize hJ : justB ⟨5, op, pl, nn, nm, ar, ex⟩ ⟨0, 0, 0, 0, ⟨#[]⟩, ⟨#[]⟩, ⟨#[]⟩⟩ l 1 = J at *
  have HNO := Lib.hid hn; have HBOX := Lib.hid hbox; have JW := Lib.hid hj; have HKW := Lib.hid hkw; have HS4 := Lib.hid hs4; have HS5 := Lib.hid hs5; have HS6 := Lib.hid hs6; have HJ := Lib.hid hJ
  clear hn hbox hj hkw hs4 hs5 hs6 hl hJ
  go_enter Tryz.func75, Tryz.ntmps75
  go_wp2_with (fail)
  refine (JW.out _).mono ?_
  rintro e w1 ⟨rfl, hb1⟩
  have HB1 := Lib.hid ((HBOX.out _).trans (hb1.mono (HBOX.out _).size)); clear hb1
  cases J
  · go_wp2
    go_ret
    exact ⟨ret_bool (by rw [HNO.out]), HB1.out⟩
  · go_wp2
    go_ret
    exact ⟨ret_bool (by rw [HNO.out]), HB1.out⟩

set_option maxRecDepth 100000 in
set_option maxHeartbeats 6400000 in
theorem fits_6 (op pl nn : Int) (nm ar ex : ByteArray) (p : Option Addr) (l c : Nat) (w : World) (hop : 0 ≤ op ∧ op ≤ 255) (hl : l ≤ maxLen) (hs4 : nm.size ≤ maxLen) (hs5 : ar.size ≤ maxLen) (hs6 : ex.size ≤ maxLen) (hkw : Words.KwLaid w) :
    Calls Tryz.prog 75 #[.agg #[.int .u8 6, .int .u8 op, .int .i64 pl, .int .i64 nn, .string nm, .string ar, .string ex, .slice p l c]] w fun e w' => e = .returned (.bool (nodeB ⟨6, op, pl, nn, nm, ar, ex⟩ l)) ∧ Below w.heap.size w w' := by
  have hn := node_is6 op pl nn nm ar ex l
  have hj := fun W => just_walk ⟨6, op, pl, nn, nm, ar, ex⟩ ⟨0, 0, 0, 0, ⟨#[]⟩, ⟨#[]⟩, ⟨#[]⟩⟩ p l c 1 W hl
  have hbox : ∀ O : Obj, Below w.heap.size w (w.alloc O) := fun O => (Below.refl _ _).alloc (Nat.le_refl _) O
  generalize hJ : justB ⟨6, op, pl, nn, nm, ar, ex⟩ ⟨0, 0, 0, 0, ⟨#[]⟩, ⟨#[]⟩, ⟨#[]⟩⟩ l 1 = J at *
  have HNO := Lib.hid hn; have HBOX := Lib.hid hbox; have JW := Lib.hid hj; have HKW := Lib.hid hkw; have HS4 := Lib.hid hs4; have HS5 := Lib.hid hs5; have HS6 := Lib.hid hs6; have HJ := Lib.hid hJ
  clear hn hbox hj hkw hs4 hs5 hs6 hl hJ
  go_enter Tryz.func75, Tryz.ntmps75
  go_wp2_with (fail)
  refine (JW.out _).mono ?_
  rintro e w1 ⟨rfl, hb1⟩
  have HB1 := Lib.hid ((HBOX.out _).trans (hb1.mono (HBOX.out _).size)); clear hb1
  cases J
  · go_wp2
    go_ret
    exact ⟨ret_bool (by rw [HNO.out]), HB1.out⟩
  · go_wp2
    go_ret
    exact ⟨ret_bool (by rw [HNO.out]), HB1.out⟩

end Term
end Go.Proofs.YtolpdhkgkjnbfaaGreatDoor
