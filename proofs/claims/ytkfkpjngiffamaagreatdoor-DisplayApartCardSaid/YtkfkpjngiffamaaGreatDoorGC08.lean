import Derived.Test.YtkfkpjngiffamaaGreatDoorGC07
import Derived.Deep.RegionHeld3
import Derived.Test.YtkfkpjngiffamaaGreatDoorGC06
import Derived.IntWalk
import Derived.StillTailTactics
namespace Go.Proofs.YtkfkpjngiffamaaGreatDoor
open Go.RowKit
set_option linter.unusedVariables false
namespace Rt
open Effect (At AtOk AtsAt Rd)
theorem box_at {w W : World} {cs : Array Value} {ty : TypeId} (hb : Below (w.alloc (.cells cs ty)).heap.size (w.alloc (.cells cs ty)) W) (j : Nat) {v : Value} (hv : cs[j]? = some v) : W.cell? ⟨w.heap.size, j, none⟩ = some v := Types.box_at hb j hv
theorem box_new {w : World} (O : Obj) : Below w.heap.size w (w.alloc O) := (Below.refl _ _).alloc (Nat.le_refl _) O
theorem below_then {B : Nat} {a w1 w2 : World} (h : Below B a w1) (hb : Below w1.heap.size w1 w2) (hB : B ≤ w1.heap.size) : Below B a w2 := h.trans (hb.mono hB)
theorem below_row {B : Nat} {a w1 w2 : World} {O : Obj} (h : Below B a w1) (hb : Below (w1.alloc O).heap.size (w1.alloc O) w2) (hB : B ≤ w1.heap.size) : Below B a w2 :=
 h.trans (((box_new O).trans (hb.mono (by simp))).mono hB)
theorem box4 {V W : World} {N : Nat} (hN : N = V.heap.size) {a0 a1 a2 a3 : Value} {ty : TypeId} (hb : Below (V.alloc (.cells #[a0, a1, a2, a3] ty)).heap.size (V.alloc (.cells #[a0, a1, a2, a3] ty)) W) :
  W.cell? ⟨N, 0, none⟩ = some a0 ∧ W.cell? ⟨N, 1, none⟩ = some a1 ∧ W.cell? ⟨N, 2, none⟩ = some a2 ∧ W.cell? ⟨N, 3, none⟩ = some a3 := by
 subst hN
 exact ⟨box_at hb 0 rfl, box_at hb 1 rfl, box_at hb 2 rfl, box_at hb 3 rfl⟩
theorem cap63 {w : World} {h : Hd} {pe : Option Addr} {ne ce : Nat} {p : Option Addr} {l c : Nat} {t : RT} (hT : RtIs w h pe ne ce p l c t) : (l ≤ 9223372036854775807 ∧ ne ≤ 9223372036854775807) := by
 have h1 := hT.cap
 have h2 := hT.eff.cap
 unfold maxLen at h1 h2
 omega
theorem one_le : 1 ≤ maxLen := by unfold maxLen; omega
theorem kids_one {w : World} {h : Hd} {pe : Option Addr} {ne ce : Nat} {p : Option Addr} {l c : Nat} {t : RT} (hT : RtIs w h pe ne ce p l c t) (ty : TypeId) (N : Nat) (hN : N = w.heap.size) :
  Kids (w.alloc (.cells #[.int .u8 h.k, .int .i64 h.r, .slice pe ne ce, .slice p l c] ty)) (some ⟨N, 0, none⟩) [t] := by
 subst hN
 have hb : Below w.heap.size w (w.alloc (.cells #[.int .u8 h.k, .int .i64 h.r, .slice pe ne ce, .slice p l c] ty)) := box_new _
 have hg : tget [t] 0 = t := rfl
 have e1 := hT.elen
 refine .atkids _ 0 [t] (fun _ => p) (fun _ => c) (fun _ => pe) (fun _ => ce) (fun i hi => ?_) (fun i hi j v hv => ?_) (fun i hi => ?_) (fun i hi => ?_) (fun i hi => ?_)
 all_goals
  have hi0 : i = 0 := by simp at hi; omega
  subst hi0
 ·rw [hg, hT.head]; exact hT.ok
 ·rw [hg, hT.head, hT.len, e1] at hv
  rw [show (0 + 0 * 4 + j) = j from by omega, World.cell?_alloc_mark]
  simpa [rcells] using hv
 ·rw [hg, hT.len]; exact hT.cap
 ·rw [hg, hT.head, e1]; exact hT.eff.below hb
 ·rw [hg]; exact hT.kids.stay hb
end Rt
end Go.Proofs.YtkfkpjngiffamaaGreatDoor
namespace Go.Proofs.YtkfkpjngiffamaaGreatDoor
theorem tk {P : Program} {ops : Array Oper} {Q : Exit → Act → World → Prop} {md : Region.Mode} {S : World → Prop} {i : Nat} {oi : Oper} {v : Value} {fuel : Nat} {listed : Array Bool} {a : Act} {w : World} (hi : ops[i]? = some oi)
  (hb : (Region.noSelect ops && (Region.free md ops listed i && (Region.ready md ops listed).contains i)) = true) (hQ : ∀ c a w, Q (.panic c) (a.put oi.dst v) w → Q (.panic c) a w)
  (hw : Region.wanted oi (yielded ops a.tmps) = true) (hv : ∀ w, S w → (execOp a.eval oi).run P w = .ok (.value v) w) (hS : S w)
  (h : wpAnyH P md ops Q S fuel (listed.setIfInBounds i true) (a.put oi.dst v) w) : wpAnyH P md ops Q S (fuel + 1) listed a w := by
 rw [Bool.and_eq_true, Bool.and_eq_true] at hb
 exact wpAnyH_take hi hb.1 hb.2.1 hb.2.2 hQ (Or.inl ⟨hw, hv⟩) hS h
end Go.Proofs.YtkfkpjngiffamaaGreatDoor
namespace Go.Proofs.YtkfkpjngiffamaaGreatDoor
open Go.RowKit
open List (getElem_toArray getElem_cons_succ getElem_cons_zero setIfInBounds_toArray set_cons_zero set_cons_succ)
set_option linter.unusedVariables false
set_option linter.unusedSimpArgs false
namespace Effect

theorem may_iff (l : List At) : l = ofA l ↔ (∀ x ∈ l, atomB x = true) ∧ Up l := by
 constructor
 ·intro h
  refine ⟨fun x hx => ?_, by rw [h]; exact up_of l⟩
  rw [h, mem_of] at hx
  exact hx.2
 ·rintro ⟨h1, h2⟩
  exact of_uniq h2 fun b => ⟨fun hb => ⟨hb, h1 b hb⟩, fun hb => hb.1⟩
theorem may_no1 {l : List At} {x : At} (hx : x ∈ l) (h : atomB x = false) : false = decide (l = ofA l) :=
 (decide_eq_false fun e => by have := ((may_iff l).1 e).1 x hx; rw [h] at this; cases this).symm
theorem may_no2 {l : List At} {i : Nat} (hi : i + 1 < l.length) (h : lessA (aget l i) (aget l (i + 1)) = false) : false = decide (l = ofA l) :=
 (decide_eq_false fun e => by
  have := List.pairwise_iff_getElem.1 ((may_iff l).1 e).2 i (i + 1) (by omega) hi (by omega)
  have e1 : aget l i = l[i] := by have := aget_at (l := l) (i := i) (by omega); rw [List.getElem?_eq_getElem (by omega)] at this; exact (Option.some.inj this).symm
  have e2 : aget l (i + 1) = l[i + 1] := by have := aget_at (l := l) (i := i + 1) hi; rw [List.getElem?_eq_getElem hi] at this; exact (Option.some.inj this).symm
  rw [e1, e2, this] at h; cases h).symm
theorem up_step {l : List At} {y x : At} (h : Up (l ++ [y])) (hx : lessA y x = true) : Up (l ++ [y] ++ [x]) := by
 refine List.pairwise_append.2 ⟨h, List.pairwise_singleton _ _, fun a ha b hb => ?_⟩
 rw [List.mem_singleton] at hb
 subst hb
 rcases List.mem_append.1 ha with ha | ha
 ·exact lessA_trans ((List.pairwise_append.1 h).2.2 a ha y (by simp)) hx
 ·rw [List.mem_singleton] at ha; rw [ha]; exact hx
theorem mixed : Tryz.prog.follows .mixedOrders = true := by kernel_rfl
set_option maxRecDepth 100000 in
set_option maxHeartbeats 12800000 in
theorem refMay_walk {n c : Nat} {a : Option Addr} {l : List At} {w : World} (h : Rd w n a l) (hn : n ≤ 100000) : Calls Tryz.prog 37 #[.slice a n c] w fun e w' => e = .returned (.bool (decide (l = ofA l))) ∧ Below w.heap.size w w' := by
 have H := Lib.hid h
 clear h
 go_enter Tryz.func37, Tryz.ntmps37
 go_wp2_with (fail)
 go_loopw [3, 6] (fun _ i wr => ∃ j : Nat, j ≤ n ∧ i = .int .i64 (j : Int) ∧ Hid (Below w.heap.size w wr) ∧ Hid (∀ x ∈ l.take j, atomB x = true) ∧ Hid (Up (l.take j))) (fun _ i _ => n - (intOf i).toNat)
 case atStart => exact ⟨0, Nat.zero_le _, rfl, Lib.hid (Below.refl _ _), Lib.hid (fun x hx => by simp at hx), Lib.hid (by rw [List.take_zero]; exact List.Pairwise.nil)⟩
 case round =>
  obtain ⟨j, hj, rfl, HS, HA, HUP⟩ := hrel
  by_cases hlt : j < n
  ·have hjl : j < l.length := by rw [H.out.len]; exact hlt
   obtain ⟨b, o, rfl, e0, e1, e2⟩ := (H.out.at_.below HS.out).get j hjl
   have hblk := World.block_lt_of_cell? wr _ e0
   have hx := H.out.ok _ (aget_mem hjl)
   have htk := at_take l j hjl
   have hmem := aget_mem hjl
   have hprev : ∀ i, i + 1 = j → (wr.cell? ⟨b, o + i * 3, none⟩ = some (.int .u8 (aget l i).k) ∧ wr.cell? ⟨b, o + i * 3 + 1, none⟩ = some (.int .i64 (aget l i).r) ∧ wr.cell? ⟨b, o + i * 3 + 2, none⟩ = some (.string (aget l i).x)) ∧ l.take j = l.take i ++ [aget l i] ∧ (lessA (aget l i) (aget l j) = false → false = decide (l = ofA l)) := fun i hi => by
    subst hi
    exact ⟨w2cells (H.out.at_.below HS.out) i (by omega), at_take l i (by omega), fun h => may_no2 hjl h⟩
   generalize aget l j = x at *
   have HTK := Lib.hid htk; have HMEM := Lib.hid hmem; have HE := Lib.hid (And.intro e0 (And.intro e1 e2)); have HBLK := Lib.hid hblk; have HPREV := Lib.hid hprev
   have HAT := Lib.hid fun W => refAtom_walk x W hx
   clear htk hmem hjl hx hblk hprev e0 e1 e2
   cases hat : atomB x
   ·have HNO := Lib.hid (may_no1 HMEM.out hat)
    rw [hat] at HAT
    clear hat
    go_upto_region 4 with (fail)
    refine wp_region_held_drew (S := fun (V : World) => V.heap[b]? = wr.heap[b]?) (by kernel_rfl) rfl (fun hHeld => ?_)
    refine tk (i := 0) (v := .slice (some ⟨b, o, none⟩) n c) rfl (by kernel_rfl) (fun _ _ _ h => h) (by rfl) ?_ (by assumption) ?_
    ·intro w' hSw
     first | (go_simp; done) | (go_simp; omega) | (go_simp; intro h0; omega) | rfl
    refine tk (i := 1) (v := .int .i64 (j : Int)) rfl (by kernel_rfl) (fun _ _ _ h => h) (by rfl) ?_ (by assumption) ?_
    ·intro w' hSw
     first | (go_simp; done) | (go_simp; omega) | (go_simp; intro h0; omega) | rfl
    refine tk (i := 2) (v := .pointer (some ⟨b, o + j * 3, none⟩)) rfl (by kernel_rfl) (fun _ _ _ h => h) (by rfl) ?_ (by assumption) ?_
    ·intro w' hSw
     first | (go_simp; done) | (go_simp; omega) | (go_simp; intro h0; omega) | rfl
    refine tk (i := 3) (v := .agg #[.int .u8 x.k, .int .i64 x.r, .string x.x]) rfl (by kernel_rfl) (fun _ _ _ h => h) (by rfl) ?_ (by assumption) ?_
    ·intro w' hSw
     obtain ⟨e0, e1, e2⟩ := cells_stay HE.out hSw
     clear hSw
     first | (go_simp; done) | (go_simp; omega) | (go_simp; intro h0; omega) | rfl
    try simp only [Act.put, getElem_toArray, getElem_cons_succ, getElem_cons_zero, setIfInBounds_toArray, set_cons_zero, set_cons_succ]
    refine wpAnyH_ready (rs := [4]) (by kernel_rfl) (by simp) ?_
    refine AllReadyH.cons rfl (fun K hK => ?_) AllReadyH.nil
    have HK2 := Lib.hid hK
    clear hK
    try rw [if_pos (by rfl)]
    go_simp
    refine (HAT.out _).mono ?_
    rintro e w4 ⟨rfl, hb4⟩
    have hb4' : Below wr.heap.size wr w4 := ⟨hb4.os, hb4.tape, hb4.output, hb4.size, hb4.block⟩
    have HS4 := Lib.hid (below_then HS.out hb4' HS.out.size); have HBL4 := Lib.hid hb4'
    refine HK2.out _ _ (hb4'.block b HBLK.out) (fun hHeld => ?_)
    clear hb4 hb4' HK2
    try simp only [Act.put, getElem_toArray, getElem_cons_succ, getElem_cons_zero, setIfInBounds_toArray, set_cons_zero, set_cons_succ]
    clear K
    refine tk (i := 5) (v := .bool true) rfl (by kernel_rfl) (fun _ _ _ h => h) (by rfl) ?_ (by assumption) ?_
    ·intro w' hSw
     first | (go_simp; done) | (go_simp; omega) | (go_simp; intro h0; omega) | rfl
    refine tk (i := 6) (v := .bool true) rfl (by kernel_rfl) (fun _ _ _ h => h) (by rfl) ?_ (by assumption) ?_
    ·intro w' hSw
     first | (go_simp; done) | (go_simp; omega) | (go_simp; intro h0; omega) | rfl
    refine wpAnyH_take (i := 7) (v := undef) rfl (by kernel_rfl) (by kernel_rfl) (by kernel_rfl) (fun _ _ _ h => h) (Or.inr ⟨by rfl, rfl⟩) (by assumption) ?_
    try simp only [Act.put, getElem_toArray, getElem_cons_succ, getElem_cons_zero, setIfInBounds_toArray, set_cons_zero, set_cons_succ]
    refine wpAnyH_take (i := 8) (v := undef) rfl (by kernel_rfl) (by kernel_rfl) (by kernel_rfl) (fun _ _ _ h => h) (Or.inr ⟨by rfl, rfl⟩) (by assumption) ?_
    refine wpAnyH_take (i := 9) (v := undef) rfl (by kernel_rfl) (by kernel_rfl) (by kernel_rfl) (fun _ _ _ h => h) (Or.inr ⟨by rfl, rfl⟩) (by assumption) ?_
    refine wpAnyH_take (i := 10) (v := undef) rfl (by kernel_rfl) (by kernel_rfl) (by kernel_rfl) (fun _ _ _ h => h) (Or.inr ⟨by rfl, rfl⟩) (by assumption) ?_
    refine wpAnyH_take (i := 11) (v := undef) rfl (by kernel_rfl) (by kernel_rfl) (by kernel_rfl) (fun _ _ _ h => h) (Or.inr ⟨by rfl, rfl⟩) (by assumption) ?_
    try simp only [Act.put, getElem_toArray, getElem_cons_succ, getElem_cons_zero, setIfInBounds_toArray, set_cons_zero, set_cons_succ]
    refine wpAnyH_take (i := 12) (v := undef) rfl (by kernel_rfl) (by kernel_rfl) (by kernel_rfl) (fun _ _ _ h => h) (Or.inr ⟨by rfl, rfl⟩) (by assumption) ?_
    refine wpAnyH_take (i := 13) (v := undef) rfl (by kernel_rfl) (by kernel_rfl) (by kernel_rfl) (fun _ _ _ h => h) (Or.inr ⟨by rfl, rfl⟩) (by assumption) ?_
    refine wpAnyH_take (i := 14) (v := undef) rfl (by kernel_rfl) (by kernel_rfl) (by kernel_rfl) (fun _ _ _ h => h) (Or.inr ⟨by rfl, rfl⟩) (by assumption) ?_
    refine wpAnyH_take (i := 15) (v := undef) rfl (by kernel_rfl) (by kernel_rfl) (by kernel_rfl) (fun _ _ _ h => h) (Or.inr ⟨by rfl, rfl⟩) (by assumption) ?_
    try simp only [Act.put, getElem_toArray, getElem_cons_succ, getElem_cons_zero, setIfInBounds_toArray, set_cons_zero, set_cons_succ]
    refine wpAnyH_take (i := 16) (v := undef) rfl (by kernel_rfl) (by kernel_rfl) (by kernel_rfl) (fun _ _ _ h => h) (Or.inr ⟨by rfl, rfl⟩) (by assumption) ?_
    refine wpAnyH_take (i := 17) (v := undef) rfl (by kernel_rfl) (by kernel_rfl) (by kernel_rfl) (fun _ _ _ h => h) (Or.inr ⟨by rfl, rfl⟩) (by assumption) ?_
    refine wpAnyH_take (i := 18) (v := undef) rfl (by kernel_rfl) (by kernel_rfl) (by kernel_rfl) (fun _ _ _ h => h) (Or.inr ⟨by rfl, rfl⟩) (by assumption) ?_
    refine wpAnyH_take (i := 19) (v := undef) rfl (by kernel_rfl) (by kernel_rfl) (by kernel_rfl) (fun _ _ _ h => h) (Or.inr ⟨by rfl, rfl⟩) (by assumption) ?_
    try simp only [Act.put, getElem_toArray, getElem_cons_succ, getElem_cons_zero, setIfInBounds_toArray, set_cons_zero, set_cons_succ]
    refine wpAnyH_take (i := 20) (v := undef) rfl (by kernel_rfl) (by kernel_rfl) (by kernel_rfl) (fun _ _ _ h => h) (Or.inr ⟨by rfl, rfl⟩) (by assumption) ?_
    refine wpAnyH_take (i := 21) (v := undef) rfl (by kernel_rfl) (by kernel_rfl) (by kernel_rfl) (fun _ _ _ h => h) (Or.inr ⟨by rfl, rfl⟩) (by assumption) ?_
    refine tk (i := 22) (v := .bool true) rfl (by kernel_rfl) (fun _ _ _ h => h) (by rfl) ?_ (by assumption) ?_
    ·intro w' hSw
     first | (go_simp; done) | (go_simp; omega) | (go_simp; intro h0; omega) | rfl
    try simp only [Act.put, getElem_toArray, getElem_cons_succ, getElem_cons_zero, setIfInBounds_toArray, set_cons_zero, set_cons_succ]
    refine wpAnyH_done (by kernel_rfl) ?_ _
    clear hHeld
    go_wp2_with (fail)
    go_ret
    exact ⟨ret_bool HNO.out, HS4.out⟩
   ·have HAT2 := Lib.hid hat
    rw [hat] at HAT
    clear hat
    by_cases h0 : j = 0
    ·have hjz : decide ((0 : Int) < (j : Int)) = false := decide_eq_false (by omega)
     have HJ0 := Lib.hid h0
     clear h0
     go_upto_region 4 with (fail)
     refine wp_region_held_drew (S := fun (V : World) => V.heap[b]? = wr.heap[b]?) (by kernel_rfl) rfl (fun hHeld => ?_)
     refine tk (i := 0) (v := .slice (some ⟨b, o, none⟩) n c) rfl (by kernel_rfl) (fun _ _ _ h => h) (by rfl) ?_ (by assumption) ?_
     ·intro w' hSw
      first | (go_simp; done) | (go_simp; omega) | (go_simp; intro h0; omega) | rfl
     try simp only [Act.put, getElem_toArray, getElem_cons_succ, getElem_cons_zero, setIfInBounds_toArray, set_cons_zero, set_cons_succ]
     refine tk (i := 1) (v := .int .i64 (j : Int)) rfl (by kernel_rfl) (fun _ _ _ h => h) (by rfl) ?_ (by assumption) ?_
     ·intro w' hSw
      first | (go_simp; done) | (go_simp; omega) | (go_simp; intro h0; omega) | rfl
     refine tk (i := 2) (v := .pointer (some ⟨b, o + j * 3, none⟩)) rfl (by kernel_rfl) (fun _ _ _ h => h) (by rfl) ?_ (by assumption) ?_
     ·intro w' hSw
      first | (go_simp; done) | (go_simp; omega) | (go_simp; intro h0; omega) | rfl
     refine tk (i := 3) (v := .agg #[.int .u8 x.k, .int .i64 x.r, .string x.x]) rfl (by kernel_rfl) (fun _ _ _ h => h) (by rfl) ?_ (by assumption) ?_
     ·intro w' hSw
      obtain ⟨e0, e1, e2⟩ := cells_stay HE.out hSw
      clear hSw
      first | (go_simp; done) | (go_simp; omega) | (go_simp; intro h0; omega) | rfl
     try simp only [Act.put, getElem_toArray, getElem_cons_succ, getElem_cons_zero, setIfInBounds_toArray, set_cons_zero, set_cons_succ]
     refine wpAnyH_ready (rs := [4]) (by kernel_rfl) (by simp) ?_
     refine AllReadyH.cons rfl (fun K hK => ?_) AllReadyH.nil
     have HK2 := Lib.hid hK
     clear hK
     try rw [if_pos (by rfl)]
     go_simp
     refine (HAT.out _).mono ?_
     rintro e w4 ⟨rfl, hb4⟩
     have hb4' : Below wr.heap.size wr w4 := ⟨hb4.os, hb4.tape, hb4.output, hb4.size, hb4.block⟩
     have HS4 := Lib.hid (below_then HS.out hb4' HS.out.size); have HBL4 := Lib.hid hb4'
     refine HK2.out _ _ (hb4'.block b HBLK.out) (fun hHeld => ?_)
     clear hb4 hb4' HK2
     try simp only [Act.put, getElem_toArray, getElem_cons_succ, getElem_cons_zero, setIfInBounds_toArray, set_cons_zero, set_cons_succ]
     clear K
     refine tk (i := 5) (v := .bool false) rfl (by kernel_rfl) (fun _ _ _ h => h) (by rfl) ?_ (by assumption) ?_
     ·intro w' hSw
      first | (go_simp; done) | (go_simp; omega) | (go_simp; intro h0; omega) | rfl
     refine tk (i := 6) (v := .bool false) rfl (by kernel_rfl) (fun _ _ _ h => h) (by rfl) ?_ (by assumption) ?_
     ·intro w' hSw
      first | (go_simp; done) | (go_simp; omega) | (go_simp; intro h0; omega) | rfl
     refine tk (i := 7) (v := .int .i64 (j : Int)) rfl (by kernel_rfl) (fun _ _ _ h => h) (by rfl) ?_ (by assumption) ?_
     ·intro w' hSw
      first | (go_simp; done) | (go_simp; omega) | (go_simp; intro h0; omega) | rfl
     refine tk (i := 8) (v := .bool false) rfl (by kernel_rfl) (fun _ _ _ h => h) (by rfl) ?_ (by assumption) ?_
     ·intro w' hSw
      have hz := HJ0.out
      first | (go_simp; done) | (go_simp; omega) | (go_simp; intro h0; omega) | rfl
     try simp only [Act.put, getElem_toArray, getElem_cons_succ, getElem_cons_zero, setIfInBounds_toArray, set_cons_zero, set_cons_succ]
     refine tk (i := 9) (v := .bool false) rfl (by kernel_rfl) (fun _ _ _ h => h) (by rfl) ?_ (by assumption) ?_
     ·intro w' hSw
      first | (go_simp; done) | (go_simp; omega) | (go_simp; intro h0; omega) | rfl
     refine wpAnyH_take (i := 10) (v := undef) rfl (by kernel_rfl) (by kernel_rfl) (by kernel_rfl) (fun _ _ _ h => h) (Or.inr ⟨by rfl, rfl⟩) (by assumption) ?_
     refine wpAnyH_take (i := 11) (v := undef) rfl (by kernel_rfl) (by kernel_rfl) (by kernel_rfl) (fun _ _ _ h => h) (Or.inr ⟨by rfl, rfl⟩) (by assumption) ?_
     refine wpAnyH_take (i := 12) (v := undef) rfl (by kernel_rfl) (by kernel_rfl) (by kernel_rfl) (fun _ _ _ h => h) (Or.inr ⟨by rfl, rfl⟩) (by assumption) ?_
     try simp only [Act.put, getElem_toArray, getElem_cons_succ, getElem_cons_zero, setIfInBounds_toArray, set_cons_zero, set_cons_succ]
     refine wpAnyH_take (i := 13) (v := undef) rfl (by kernel_rfl) (by kernel_rfl) (by kernel_rfl) (fun _ _ _ h => h) (Or.inr ⟨by rfl, rfl⟩) (by assumption) ?_
     refine wpAnyH_take (i := 14) (v := undef) rfl (by kernel_rfl) (by kernel_rfl) (by kernel_rfl) (fun _ _ _ h => h) (Or.inr ⟨by rfl, rfl⟩) (by assumption) ?_
     refine wpAnyH_take (i := 15) (v := undef) rfl (by kernel_rfl) (by kernel_rfl) (by kernel_rfl) (fun _ _ _ h => h) (Or.inr ⟨by rfl, rfl⟩) (by assumption) ?_
     refine wpAnyH_take (i := 16) (v := undef) rfl (by kernel_rfl) (by kernel_rfl) (by kernel_rfl) (fun _ _ _ h => h) (Or.inr ⟨by rfl, rfl⟩) (by assumption) ?_
     try simp only [Act.put, getElem_toArray, getElem_cons_succ, getElem_cons_zero, setIfInBounds_toArray, set_cons_zero, set_cons_succ]
     refine wpAnyH_take (i := 17) (v := undef) rfl (by kernel_rfl) (by kernel_rfl) (by kernel_rfl) (fun _ _ _ h => h) (Or.inr ⟨by rfl, rfl⟩) (by assumption) ?_
     refine wpAnyH_take (i := 18) (v := undef) rfl (by kernel_rfl) (by kernel_rfl) (by kernel_rfl) (fun _ _ _ h => h) (Or.inr ⟨by rfl, rfl⟩) (by assumption) ?_
     refine wpAnyH_take (i := 19) (v := undef) rfl (by kernel_rfl) (by kernel_rfl) (by kernel_rfl) (fun _ _ _ h => h) (Or.inr ⟨by rfl, rfl⟩) (by assumption) ?_
     refine wpAnyH_take (i := 20) (v := undef) rfl (by kernel_rfl) (by kernel_rfl) (by kernel_rfl) (fun _ _ _ h => h) (Or.inr ⟨by rfl, rfl⟩) (by assumption) ?_
     try simp only [Act.put, getElem_toArray, getElem_cons_succ, getElem_cons_zero, setIfInBounds_toArray, set_cons_zero, set_cons_succ]
     refine tk (i := 21) (v := .bool false) rfl (by kernel_rfl) (fun _ _ _ h => h) (by rfl) ?_ (by assumption) ?_
     ·intro w' hSw
      first | (go_simp; done) | (go_simp; omega) | (go_simp; intro h0; omega) | rfl
     refine tk (i := 22) (v := .bool false) rfl (by kernel_rfl) (fun _ _ _ h => h) (by rfl) ?_ (by assumption) ?_
     ·intro w' hSw
      first | (go_simp; done) | (go_simp; omega) | (go_simp; intro h0; omega) | rfl
     try simp only [Act.put, getElem_toArray, getElem_cons_succ, getElem_cons_zero, setIfInBounds_toArray, set_cons_zero, set_cons_succ]
     refine wpAnyH_done (by kernel_rfl) ?_ _
     clear hHeld
     go_wp2_with (fail)
     go_roundw
     case rel => exact ⟨j + 1, by omega, by go_num, HS4, Lib.hid (by rw [HTK.out, HJ0.out]; simp; exact HAT2.out), Lib.hid (by rw [HTK.out, HJ0.out]; simp [Up])⟩
     case measure => simp [intOf]; omega
    ·obtain ⟨i, hi⟩ : ∃ i, i + 1 = j := ⟨j - 1, by omega⟩
     obtain ⟨hpc, hpt, hpn⟩ := HPREV.out i hi
     generalize aget l i = y at *
     have HPC := Lib.hid hpc; have HPT := Lib.hid hpt; have HPN := Lib.hid hpn
     have hi1 : IntKind.i64.wrap ((j : Int) - 1) = (i : Int) := by rw [IntWalk.i64_in _ (by omega)]; omega
     have hij : i < n := by omega
     have hj0 : (0 : Int) < j := by omega
     have HIJ := Lib.hid hi
     clear hpc hpt hpn hi HPREV
     go_upto_region 4 with (fail)
     refine wp_region_held_drew (S := fun (V : World) => V.heap[b]? = wr.heap[b]?) (by kernel_rfl) rfl (fun hHeld => ?_)
     refine tk (i := 0) (v := .slice (some ⟨b, o, none⟩) n c) rfl (by kernel_rfl) (fun _ _ _ h => h) (by rfl) ?_ (by assumption) ?_
     ·intro w' hSw
      first | (go_simp; done) | (go_simp; omega) | (go_simp; intro h0; omega) | rfl
     refine tk (i := 1) (v := .int .i64 (j : Int)) rfl (by kernel_rfl) (fun _ _ _ h => h) (by rfl) ?_ (by assumption) ?_
     ·intro w' hSw
      first | (go_simp; done) | (go_simp; omega) | (go_simp; intro h0; omega) | rfl
     try simp only [Act.put, getElem_toArray, getElem_cons_succ, getElem_cons_zero, setIfInBounds_toArray, set_cons_zero, set_cons_succ]
     refine tk (i := 2) (v := .pointer (some ⟨b, o + j * 3, none⟩)) rfl (by kernel_rfl) (fun _ _ _ h => h) (by rfl) ?_ (by assumption) ?_
     ·intro w' hSw
      first | (go_simp; done) | (go_simp; omega) | (go_simp; intro h0; omega) | rfl
     refine tk (i := 3) (v := .agg #[.int .u8 x.k, .int .i64 x.r, .string x.x]) rfl (by kernel_rfl) (fun _ _ _ h => h) (by rfl) ?_ (by assumption) ?_
     ·intro w' hSw
      obtain ⟨e0, e1, e2⟩ := cells_stay HE.out hSw
      clear hSw
      first | (go_simp; done) | (go_simp; omega) | (go_simp; intro h0; omega) | rfl
     try simp only [Act.put, getElem_toArray, getElem_cons_succ, getElem_cons_zero, setIfInBounds_toArray, set_cons_zero, set_cons_succ]
     refine wpAnyH_ready (rs := [4]) (by kernel_rfl) (by simp) ?_
     refine AllReadyH.cons rfl (fun K hK => ?_) AllReadyH.nil
     have HK2 := Lib.hid hK
     clear hK
     try rw [if_pos (by rfl)]
     go_simp
     refine (HAT.out _).mono ?_
     rintro e w4 ⟨rfl, hb4⟩
     have hb4' : Below wr.heap.size wr w4 := ⟨hb4.os, hb4.tape, hb4.output, hb4.size, hb4.block⟩
     have HS4 := Lib.hid (below_then HS.out hb4' HS.out.size); have HBL4 := Lib.hid hb4'
     refine HK2.out _ _ (hb4'.block b HBLK.out) (fun hHeld => ?_)
     clear hb4 hb4' HK2
     try simp only [Act.put, getElem_toArray, getElem_cons_succ, getElem_cons_zero, setIfInBounds_toArray, set_cons_zero, set_cons_succ]
     clear K
     refine tk (i := 5) (v := .bool false) rfl (by kernel_rfl) (fun _ _ _ h => h) (by rfl) ?_ (by assumption) ?_
     ·intro w' hSw
      first | (go_simp; done) | (go_simp; omega) | (go_simp; intro h0; omega) | rfl
     try simp only [Act.put, getElem_toArray, getElem_cons_succ, getElem_cons_zero, setIfInBounds_toArray, set_cons_zero, set_cons_succ]
     refine tk (i := 6) (v := .bool false) rfl (by kernel_rfl) (fun _ _ _ h => h) (by rfl) ?_ (by assumption) ?_
     ·intro w' hSw
      first | (go_simp; done) | (go_simp; omega) | (go_simp; intro h0; omega) | rfl
     refine tk (i := 7) (v := .int .i64 (j : Int)) rfl (by kernel_rfl) (fun _ _ _ h => h) (by rfl) ?_ (by assumption) ?_
     ·intro w' hSw
      first | (go_simp; done) | (go_simp; omega) | (go_simp; intro h0; omega) | rfl
     refine tk (i := 8) (v := .bool true) rfl (by kernel_rfl) (fun _ _ _ h => h) (by rfl) ?_ (by assumption) ?_
     ·intro w' hSw
      first | (go_simp; done) | (go_simp; omega) | (go_simp; intro h0; omega) | rfl
     refine tk (i := 9) (v := .bool true) rfl (by kernel_rfl) (fun _ _ _ h => h) (by rfl) ?_ (by assumption) ?_
     ·intro w' hSw
      first | (go_simp; done) | (go_simp; omega) | (go_simp; intro h0; omega) | rfl
     try simp only [Act.put, getElem_toArray, getElem_cons_succ, getElem_cons_zero, setIfInBounds_toArray, set_cons_zero, set_cons_succ]
     refine tk (i := 10) (v := .slice (some ⟨b, o, none⟩) n c) rfl (by kernel_rfl) (fun _ _ _ h => h) (by rfl) ?_ (by assumption) ?_
     ·intro w' hSw
      first | (go_simp; done) | (go_simp; omega) | (go_simp; intro h0; omega) | rfl
     refine tk (i := 11) (v := .int .i64 (j : Int)) rfl (by kernel_rfl) (fun _ _ _ h => h) (by rfl) ?_ (by assumption) ?_
     ·intro w' hSw
      first | (go_simp; done) | (go_simp; omega) | (go_simp; intro h0; omega) | rfl
     refine tk (i := 12) (v := .int .i64 (i : Int)) rfl (by kernel_rfl) (fun _ _ _ h => h) (by rfl) ?_ (by assumption) ?_
     ·intro w' hSw
      first | (go_simp; done) | (go_simp; omega) | (go_simp; intro h0; omega) | rfl
     refine tk (i := 13) (v := .pointer (some ⟨b, o + i * 3, none⟩)) rfl (by kernel_rfl) (fun _ _ _ h => h) (by rfl) ?_ (by assumption) ?_
     ·intro w' hSw
      first | (go_simp; done) | (go_simp; omega) | (go_simp; intro h0; omega) | rfl
     try simp only [Act.put, getElem_toArray, getElem_cons_succ, getElem_cons_zero, setIfInBounds_toArray, set_cons_zero, set_cons_succ]
     refine tk (i := 14) (v := .agg #[.int .u8 y.k, .int .i64 y.r, .string y.x]) rfl (by kernel_rfl) (fun _ _ _ h => h) (by rfl) ?_ (by assumption) ?_
     ·intro w' hSw
      obtain ⟨e0, e1, e2⟩ := cells_stay HPC.out hSw
      clear hSw
      first | (go_simp; done) | (go_simp; omega) | (go_simp; intro h0; omega) | rfl
     refine tk (i := 15) (v := .slice (some ⟨b, o, none⟩) n c) rfl (by kernel_rfl) (fun _ _ _ h => h) (by rfl) ?_ (by assumption) ?_
     ·intro w' hSw
      first | (go_simp; done) | (go_simp; omega) | (go_simp; intro h0; omega) | rfl
     refine tk (i := 16) (v := .int .i64 (j : Int)) rfl (by kernel_rfl) (fun _ _ _ h => h) (by rfl) ?_ (by assumption) ?_
     ·intro w' hSw
      first | (go_simp; done) | (go_simp; omega) | (go_simp; intro h0; omega) | rfl
     refine tk (i := 17) (v := .pointer (some ⟨b, o + j * 3, none⟩)) rfl (by kernel_rfl) (fun _ _ _ h => h) (by rfl) ?_ (by assumption) ?_
     ·intro w' hSw
      first | (go_simp; done) | (go_simp; omega) | (go_simp; intro h0; omega) | rfl
     try simp only [Act.put, getElem_toArray, getElem_cons_succ, getElem_cons_zero, setIfInBounds_toArray, set_cons_zero, set_cons_succ]
     refine tk (i := 18) (v := .agg #[.int .u8 x.k, .int .i64 x.r, .string x.x]) rfl (by kernel_rfl) (fun _ _ _ h => h) (by rfl) ?_ (by assumption) ?_
     ·intro w' hSw
      obtain ⟨e0, e1, e2⟩ := cells_stay HE.out hSw
      clear hSw
      first | (go_simp; done) | (go_simp; omega) | (go_simp; intro h0; omega) | rfl
     try simp only [Act.put, getElem_toArray, getElem_cons_succ, getElem_cons_zero, setIfInBounds_toArray, set_cons_zero, set_cons_succ]
     refine wpAnyH_ready (rs := [19]) (by kernel_rfl) (by simp) ?_
     refine AllReadyH.cons rfl (fun K hK => ?_) AllReadyH.nil
     have HK2 := Lib.hid hK
     clear hK
     try rw [if_pos (by rfl)]
     have HLS := Lib.hid fun W => less_walk y x W
     go_simp
     refine (HLS.out _).mono ?_
     rintro e w5 ⟨rfl, hb5⟩
     have HS5 := Lib.hid (below_then HS4.out hb5 HS4.out.size)
     refine HK2.out _ _ ((hb5.block b (Nat.lt_of_lt_of_le HBLK.out HBL4.out.size)).trans (HBL4.out.block b HBLK.out)) (fun hHeld => ?_)
     clear hb5 HK2
     try simp only [Act.put, getElem_toArray, getElem_cons_succ, getElem_cons_zero, setIfInBounds_toArray, set_cons_zero, set_cons_succ]
     clear K
     cases hls : lessA y x
     ·have HNO := Lib.hid (HPN.out hls)
      clear hls
      refine tk (i := 20) (v := .bool true) rfl (by kernel_rfl) (fun _ _ _ h => h) (by rfl) ?_ (by assumption) ?_
      ·intro w' hSw
       first | (go_simp; done) | (go_simp; omega) | (go_simp; intro h0; omega) | rfl
      refine tk (i := 21) (v := .bool true) rfl (by kernel_rfl) (fun _ _ _ h => h) (by rfl) ?_ (by assumption) ?_
      ·intro w' hSw
       first | (go_simp; done) | (go_simp; omega) | (go_simp; intro h0; omega) | rfl
      try simp only [Act.put, getElem_toArray, getElem_cons_succ, getElem_cons_zero, setIfInBounds_toArray, set_cons_zero, set_cons_succ]
      refine tk (i := 22) (v := .bool true) rfl (by kernel_rfl) (fun _ _ _ h => h) (by rfl) ?_ (by assumption) ?_
      ·intro w' hSw
       first | (go_simp; done) | (go_simp; omega) | (go_simp; intro h0; omega) | rfl
      try simp only [Act.put, getElem_toArray, getElem_cons_succ, getElem_cons_zero, setIfInBounds_toArray, set_cons_zero, set_cons_succ]
      refine wpAnyH_done (by kernel_rfl) ?_ _
      clear hHeld
      go_wp2_with (fail)
      go_ret
      exact ⟨ret_bool HNO.out, HS5.out⟩
     ·have HLS2 := Lib.hid hls
      clear hls
      refine tk (i := 20) (v := .bool false) rfl (by kernel_rfl) (fun _ _ _ h => h) (by rfl) ?_ (by assumption) ?_
      ·intro w' hSw
       first | (go_simp; done) | (go_simp; omega) | (go_simp; intro h0; omega) | rfl
      refine tk (i := 21) (v := .bool false) rfl (by kernel_rfl) (fun _ _ _ h => h) (by rfl) ?_ (by assumption) ?_
      ·intro w' hSw
       first | (go_simp; done) | (go_simp; omega) | (go_simp; intro h0; omega) | rfl
      refine tk (i := 22) (v := .bool false) rfl (by kernel_rfl) (fun _ _ _ h => h) (by rfl) ?_ (by assumption) ?_
      ·intro w' hSw
       first | (go_simp; done) | (go_simp; omega) | (go_simp; intro h0; omega) | rfl
      try simp only [Act.put, getElem_toArray, getElem_cons_succ, getElem_cons_zero, setIfInBounds_toArray, set_cons_zero, set_cons_succ]
      refine wpAnyH_done (by kernel_rfl) ?_ _
      clear hHeld
      go_wp2_with (fail)
      go_roundw
      case rel => exact ⟨j + 1, by omega, by go_num, HS5, Lib.hid (by rw [HTK.out]; exact fun z hz => (List.mem_append.1 hz).elim (HA.out z) fun hz => by rw [List.mem_singleton.1 hz]; exact HAT2.out), Lib.hid (by have hu := HUP.out; rw [HTK.out]; rw [HPT.out] at hu ⊢; exact up_step hu HLS2.out)⟩
      case measure => simp [intOf]; omega
  ·obtain rfl : j = n := by omega
   have hall := HA.out; have hup := HUP.out
   rw [List.take_of_length_le (by rw [H.out.len]; exact Nat.le_refl _)] at hall hup
   have HALL := Lib.hid (decide_eq_true ((may_iff l).2 ⟨hall, hup⟩))
   clear hall hup
   go_wp2_with (fail)
   go_ret
   exact ⟨ret_bool HALL.out.symm, HS.out⟩
end Effect
end Go.Proofs.YtkfkpjngiffamaaGreatDoor
namespace Go.Proofs.YtkfkpjngiffamaaGreatDoor
open Go.RowKit
set_option linter.unusedVariables false
set_option linter.unusedSimpArgs false
namespace Rt
open Effect (At AtOk AtsAt Rd ofA greatB ret_i64 ret_bool)

set_option maxRecDepth 10000 in
set_option maxHeartbeats 3200000 in
theorem left_walk : ∀ (m : Nat) (t : RT) (h : Hd) (pe : Option Addr) (ne ce : Nat) (p : Option Addr) (l c : Nat) (n : Int) (w : World), wt t ≤ m → RtIs w h pe ne ce p l c t → 0 ≤ n → n ≤ 100 →
  Calls Tryz.prog 54 #[.agg #[.int .u8 h.k, .int .i64 h.r, .slice pe ne ce, .slice p l c], .int .i64 n] w fun e w' => e = .returned (.int .i64 (leftT t n)) ∧ Below w.heap.size w w' := by
 intro m
 induction m with
 | zero => intro t h pe ne ce p l c n w hm; have := wt_pos t; omega
 | succ m ih =>
  intro t h pe ne ce p l c n w hm hT hn0 hn1
  have hle := leftT_eq t n
  rw [hT.head] at hle
  obtain ⟨hlc, hnc⟩ := cap63 hT
  have hgr := fun O : Obj => Effect.great_walk (c := ce) (hT.eff.below (box_new O)).rd (Nat.le_trans hT.eff.cap.1 hT.eff.cap.2)
  obtain ⟨k, v, e⟩ := h
  simp only at hle hgr
  have hbox : ∀ O : Obj, Below w.heap.size w (w.alloc O) := fun O => box_new O
  have HBOX := Lib.hid hbox; have IH := Lib.hid ih; have HT := Lib.hid hT; have HM := Lib.hid hm; have HGR := Lib.hid hgr
  clear ih hT hm hbox hgr
  by_cases hg : greatB e = true
  ·rw [if_pos hg] at hle
   have HLE := Lib.hid hle; have HG := Lib.hid hg
   clear hle hg
   go_enter Tryz.func54, Tryz.ntmps54
   go_wp2_with (fail)
   refine (HGR.out _).mono ?_
   rintro e1 w1 ⟨rfl, rfl⟩
   rw [HG.out]
   go_wp2_with (fail)
   go_ret
   exact ⟨ret_i64 (by rw [HLE.out]), HBOX.out _⟩
  rw [if_neg hg] at hle
  rw [Bool.not_eq_true] at hg
  have HLE := Lib.hid hle; have HG := Lib.hid hg
  clear hle hg
  go_enter Tryz.func54, Tryz.ntmps54
  go_wp2_with (fail)
  refine (HGR.out _).mono ?_
  rintro e1 w1 ⟨rfl, rfl⟩
  rw [HG.out]
  go_wp2_with (fail)
  go_loopw [1, 5] (fun N i wr => ∃ (j : Nat) (M : Int), j ≤ l ∧ i = .int .i64 j ∧ N = .int .i64 M ∧ -1 ≤ M ∧ M ≤ 100 ∧ Hid (leftK t.ks (n - 1) = leftK (t.ks.drop j) M) ∧
   Hid (Below (w.alloc (.cells #[.int .u8 k, .int .i64 v, .slice pe ne ce, .slice p l c] 28)).heap.size (w.alloc (.cells #[.int .u8 k, .int .i64 v, .slice pe ne ce, .slice p l c] 28)) wr)) (fun _ i _ => l - (intOf i).toNat)
  case atStart => exact ⟨0, n - 1, Nat.zero_le _, rfl, rfl, by omega, by omega, Lib.hid (by rw [List.drop_zero]), Lib.hid (Below.refl _ _)⟩
  case round =>
   obtain ⟨j, M, hj, rfl, rfl, hM0, hM1, HLK, HW⟩ := hrel
   obtain ⟨b0, b1, b2, b3⟩ := box4 (N := w.heap.size) rfl HW.out
   have HWW := Lib.hid ((HBOX.out _).trans (HW.out.mono (HBOX.out _).size))
   by_cases hlt : j < l
   ·by_cases hneg : M < 0
    ·have hr := HLK.out
     rw [leftK_neg _ _ hneg] at hr
     have HR := Lib.hid hr; clear hr
     go_wp2_with (fail)
     go_ret
     exact ⟨ret_i64 (by rw [HLE.out, HR.out]), HWW.out⟩
    ·have hjk : j < t.ks.length := by rw [HT.out.len]; exact hlt
     have hst := HLK.out
     rw [leftK_step _ _ _ hjk hneg] at hst
     obtain ⟨b, o, q, c', qe, ce', rfl, hkid, c0, c1, c2, c3⟩ := (HT.out.kids.stay HWW.out).get j hjk
     have hwk := wts_get hjk
     have hwt := wt_ks t
     have hlr1 := (left_range (wt (tget t.ks j))).1 (tget t.ks j) M (Nat.le_refl _) (by omega)
     have HST := Lib.hid hst; have HK := Lib.hid hkid
     have HWK := Lib.hid hwk; have HWT := Lib.hid hwt; have HLR := Lib.hid hlr1
     clear hst hkid hwk hwt hlr1 hjk
     go_wp2_with (fail)
     refine (IH.out (tget t.ks j) _ qe _ ce' q _ c' M _ (by have := HM.out; have := HWK.out; have := HWT.out; omega) HK.out (by omega) hM1).mono ?_
     rintro e w2 ⟨rfl, hb2⟩
     have HW2 := Lib.hid (HW.out.trans (hb2.mono HW.out.size))
     clear hb2 b0 b1 b2 b3 c0 c1 c2 c3
     have hx0 : -1 ≤ leftT (tget t.ks j) M := HLR.out.1
     have hx1 : leftT (tget t.ks j) M ≤ 100 := by have := HLR.out.2; omega
     generalize hX : leftT (tget t.ks j) M = X at *
     have HX := Lib.hid hX; clear hX
     go_wp2
     go_roundw
     case rel => exact ⟨j + 1, X, by omega, by go_num, rfl, hx0, hx1, HST, HW2⟩
     case measure => simp [intOf]; omega
   ·obtain rfl : j = l := by omega
    have hr := HLK.out
    rw [List.drop_eq_nil_of_le (by rw [HT.out.len]; exact Nat.le_refl _), leftK_nil] at hr
    have HR := Lib.hid hr; clear hr
    go_wp2_with (fail)
    go_ret
    exact ⟨ret_i64 (by rw [HLE.out, HR.out]), HWW.out⟩
theorem great_walk (t : RT) (h : Hd) (pe : Option Addr) (ne ce : Nat) (p : Option Addr) (l c : Nat) (w : World) (hT : RtIs w h pe ne ce p l c t) :
  Calls Tryz.prog 33 #[.agg #[.int .u8 h.k, .int .i64 h.r, .slice pe ne ce, .slice p l c]] w fun e w' => e = .returned (.bool (greatT t)) ∧ Below w.heap.size w w' := by
 obtain ⟨k, v, e⟩ := h
 have hbox : ∀ O : Obj, Below w.heap.size w (w.alloc O) := fun O => box_new O
 have HBOX := Lib.hid hbox; have HT := Lib.hid hT
 clear hT hbox
 go_enter Tryz.func33, Tryz.ntmps33
 go_wp2_with (fail)
 refine (left_walk _ t _ pe ne ce p l c 100 _ (Nat.le_refl _) (HT.out.below (HBOX.out _)) (by omega) (by omega)).mono ?_
 rintro e w1 ⟨rfl, hb⟩
 have HB := Lib.hid ((HBOX.out _).trans (hb.mono (HBOX.out _).size)); clear hb
 have hg : greatT t = decide (leftT t 100 < 0) := rfl
 have HG := Lib.hid hg; clear hg
 generalize leftT t 100 = X at *
 go_wp2
 go_ret
 exact ⟨ret_bool HG.out.symm, HB.out⟩

theorem wts_take_step (ts : List RT) (j : Nat) (hj : j < ts.length) : wts (ts.take (j + 1)) = wts (ts.take j) + wt (tget ts j) := by
 rw [take_tget ts j hj, wts_append, wts_cons, wts_nil]; omega
end Rt
end Go.Proofs.YtkfkpjngiffamaaGreatDoor
