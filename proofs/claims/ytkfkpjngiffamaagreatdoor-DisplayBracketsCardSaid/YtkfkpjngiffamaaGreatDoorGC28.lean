import Derived.Test.YtkfkpjngiffamaaGreatDoorGC23
import Derived.Test.YtkfkpjngiffamaaGreatDoorGC08
import Derived.Test.YtkfkpjngiffamaaGreatDoorGC11
import Derived.Test.YtkfkpjngiffamaaGreatDoorGC10
import Derived.Test.YtkfkpjngiffamaaGreatDoorGC16
import Derived.Test.YtkfkpjngiffamaaGreatDoorGC21
import Derived.LoopTactic
import Derived.Test.YtkfkpjngiffamaaGreatDoorGC27
import Derived.Test.YtkfkpjngiffamaaGreatDoorGC09
import Derived.IntWalk
import Derived.Deep.RegionHeld3
import Derived.Deep.DeepCutAuto
namespace Go.Proofs.YtkfkpjngiffamaaGreatDoor
open Go.RowKit
set_option linter.unusedVariables false
set_option linter.unusedSimpArgs false
namespace Disp
open Aterm (AT Hd tget wt wts nodeB allT allK flatT flatK flatT_eq flatK_nil flatK_cons)
open Effect (At ofA textE textA digs atomB)
open Types (jb bl wInt wOpen wShut wStar wRef wArrow)
open Rt (wAt wBang kw)
open SE (atom node)

mutual
def boxN : Rt.RT → Nat
 | .node h l => (if 1 < h.k then 1 else 0) + boxK l
def boxK : List Rt.RT → Nat
 | [] => 0
 | t :: ts => boxN t + boxK ts
end
theorem boxN_eq (t : Rt.RT) : boxN t = (if 1 < t.h.k then 1 else 0) + boxK t.ks := by cases t; rw [boxN]; rfl
theorem boxK_nil : boxK [] = 0 := by rw [boxK]
theorem boxK_cons (t : Rt.RT) (ts : List Rt.RT) : boxK (t :: ts) = boxN t + boxK ts := by rw [boxK]
theorem boxK_1 {ts : List Rt.RT} (h : ts.length = 1) : boxK ts = boxN (Rt.tget ts 0) := by
 match ts, h with
 | [a], _ => rw [boxK_cons, boxK_nil, Nat.add_zero]; rfl
theorem boxK_2 {ts : List Rt.RT} (h : ts.length = 2) : boxK ts = boxN (Rt.tget ts 0) + boxN (Rt.tget ts 1) := by
 match ts, h with
 | [a, b], _ => rw [boxK_cons, boxK_cons, boxK_nil, Nat.add_zero]; rfl
theorem boxK_0 {ts : List Rt.RT} (h : ts.length = 0) : boxK ts = 0 := by rw [List.length_eq_zero_iff.1 h, boxK_nil]
theorem box_zero : boxN (.node ⟨0, 0, []⟩ []) = 0 := by rw [boxN, boxK_nil]; rfl
theorem no_tail : ∀ l : List At, nodesL (tailA l) = 0
 | [] => by rw [tailA, nodesL_nil]
 | x :: xs => by rw [tailA, nodesL_cons, nodesL_cons, nodesL_cons, nodesS_atom, nodesS_atom, nodesS_atom, no_tail xs]
theorem no_eff (l : List At) : nodesL (effA l) = 0 := by
 cases l with
 | nil => rw [effA, nodesL_cons, nodesL_nil, nodesS_atom]
 | cons x xs => rw [effA, nodesL_cons, nodesL_cons, nodesS_atom, nodesS_atom, no_tail]
theorem no_rhos (rs : List Int) : nodesL (rhosA rs) = 0 := by
 have h : ∀ l : List Int, nodesL (l.map fun r => atom (digs r)) = 0 := by
  intro l
  induction l with
  | nil => exact nodesL_nil
  | cons x xs ih => rw [List.map_cons, nodesL_cons, nodesS_atom, ih]
 unfold rhosA
 rw [nodesL_cons, nodesL_append, nodesL_cons, nodesL_nil, nodesS_atom, nodesS_atom, h]
theorem no_at (r : Int) : nodesL (atA r) = 0 := by unfold atA; rw [nodesL_cons, nodesL_cons, nodesL_nil, nodesS_atom, nodesS_atom]
theorem box_ty : ∀ m : Nat, ∀ t : Rt.RT, Rt.wt t ≤ m → Rt.mayT t = true → nodesS (sxR t) = boxN t := by
 intro m
 induction m with
 | zero => intro t h; have := Rt.wt_pos t; omega
 | succ m ih =>
  intro t h hm
  obtain ⟨hk, -⟩ := Rt.may_node hm
  rw [sxR_eq, boxN_eq]
  unfold rhS inR
  rcases hk with ⟨hk, hl, -⟩ | ⟨hk, hl⟩ | ⟨hk, hl⟩
  ·rw [if_pos hk, nodesS_atom, boxK_0 (by omega), if_neg (by omega)]
  ·have h0 := ih (Rt.tget t.ks 0) (by have := Rt.wt1 hl; omega) (Rt.may_kid hm (by omega))
   have k1 := kR_get (show 0 < t.ks.length by omega)
   rw [boxK_1 hl]
   simp only [hk, ↓reduceIte, Int.reduceEq, k1, nodesS_node, nodesL_cons, nodesL_nil, nodesS_atom, Int.reduceLT]
   omega
  ·have h0 := ih (Rt.tget t.ks 0) (by have := Rt.wt2 hl; omega) (Rt.may_kid hm (by omega))
   have h1 := ih (Rt.tget t.ks 1) (by have := Rt.wt2 hl; omega) (Rt.may_kid hm (by omega))
   have k1 := kR_get (show 0 < t.ks.length by omega)
   have k3 := kR_get (show 1 < t.ks.length by omega)
   rw [boxK_2 hl]
   rcases hk with hk | hk
   ·simp only [hk, ↓reduceIte, Int.reduceEq, k1, k3, nodesS_node, nodesL_cons, nodesL_append, nodesL_nil, nodesS_atom, no_eff, no_at, Int.reduceLT]
    omega
   ·simp only [hk, ↓reduceIte, Int.reduceEq, k1, k3, nodesS_node, nodesL_cons, nodesL_append, nodesL_nil, nodesS_atom, no_eff, no_at, Int.reduceLT]
    omega
def cost (h : Hd) : Nat := (if 2 < h.h.k then 1 else 0) + (boxN h.ty + boxN h.re)
def brL (l : List AT) : Nat := (l.map fun u => cost u.h).sum
theorem brL_nil : brL [] = 0 := rfl
theorem brL_cons (t : AT) (l : List AT) : brL (t :: l) = cost t.h + brL l := by unfold brL; rw [List.map_cons, List.sum_cons]
theorem brL_append (l k : List AT) : brL (l ++ k) = brL l + brL k := by unfold brL; rw [List.map_append, List.sum_append]
theorem brK_0 {ts : List AT} (h : ts.length = 0) : brL (flatK ts) = 0 := by rw [List.length_eq_zero_iff.1 h, flatK_nil]; rfl
theorem brK_1 {ts : List AT} (h : ts.length = 1) : brL (flatK ts) = brL (flatT (tget ts 0)) := by
 match ts, h with
 | [a], _ => rw [flatK_cons, flatK_nil, List.append_nil]; rfl
theorem brK_2 {ts : List AT} (h : ts.length = 2) : brL (flatK ts) = brL (flatT (tget ts 0)) + brL (flatT (tget ts 1)) := by
 match ts, h with
 | [a, b], _ => rw [flatK_cons, flatK_cons, flatK_nil, List.append_nil, brL_append]; rfl
theorem brK_3 {ts : List AT} (h : ts.length = 3) : brL (flatK ts) = brL (flatT (tget ts 0)) + (brL (flatT (tget ts 1)) + brL (flatT (tget ts 2))) := by
 match ts, h with
 | [a, b, c], _ => rw [flatK_cons, flatK_cons, flatK_cons, flatK_nil, List.append_nil, brL_append, brL_append]; rfl
set_option maxHeartbeats 1600000 in
theorem br_flat : ∀ m : Nat, ∀ t : AT, wt t ≤ m → allT nodeB t = true → nodesS (sx t) = brL (flatT t) := by
 intro m
 induction m with
 | zero => intro t h; have := Aterm.wt_pos t; omega
 | succ m ih =>
  intro t h hm
  have A := nd_of (top_all hm)
  have hty : boxN t.h.ty = if t.h.h.k = 11 ∨ t.h.h.k = 13 ∨ t.h.h.k = 15 then nodesS (sxR t.h.ty) else 0 := by
   have := A.ty
   by_cases hc : t.h.h.k = 11 ∨ t.h.h.k = 13 ∨ t.h.h.k = 15
   ·rw [if_pos hc] at this ⊢; exact (box_ty _ _ (Nat.le_refl _) this).symm
   ·rw [if_neg hc] at this ⊢; rw [this, box_zero]
  have hre : boxN t.h.re = if t.h.h.k = 13 then nodesS (sxR t.h.re) else 0 := by
   have := A.re
   by_cases hc : t.h.h.k = 13
   ·rw [if_pos hc] at this ⊢; exact (box_ty _ _ (Nat.le_refl _) this).symm
   ·rw [if_neg hc] at this ⊢; rw [this, box_zero]
  have S := fun i (hi : i < t.ks.length) => kS_get hi
  rw [sx_eq, flatT_eq, brL_cons]
  unfold sxH inS cost
  rw [hty, hre]
  rcases kinds hm with ⟨hk, hl⟩ | ⟨hk, hl⟩ | ⟨hk, hl⟩ | ⟨hk, hl⟩
  ·rw [brK_0 hl]
   rcases hk with hk | hk | hk
   all_goals simp [hk, nodesS_node, nodesL_cons, nodesL_nil, nodesL_append, nodesS_atom, no_eff, no_rhos, no_at]
  ·have h0 := ih (tget t.ks 0) (by have := wt1 hl; omega) (kid_all hm (by omega))
   have s0 := S 0 (by omega)
   rw [brK_1 hl, ← h0]
   rcases hk with hk | hk | hk | hk | hk | hk | hk
   all_goals
    simp [hk, s0, nodesS_node, nodesL_cons, nodesL_nil, nodesL_append, nodesS_atom, no_eff, no_rhos, no_at]
    try omega
  ·have h0 := ih (tget t.ks 0) (by have := wt2 hl; omega) (kid_all hm (by omega))
   have h1 := ih (tget t.ks 1) (by have := wt2 hl; omega) (kid_all hm (by omega))
   have s0 := S 0 (by omega)
   have s1 := S 1 (by omega)
   rw [brK_2 hl, ← h0, ← h1]
   rcases hk with hk | hk | hk | hk | hk | hk | hk
   all_goals
    simp [hk, s0, s1, nodesS_node, nodesL_cons, nodesL_nil, nodesL_append, nodesS_atom, no_eff, no_rhos, no_at]
    try omega
  ·have h0 := ih (tget t.ks 0) (by have := wt3 hl; omega) (kid_all hm (by omega))
   have h1 := ih (tget t.ks 1) (by have := wt3 hl; omega) (kid_all hm (by omega))
   have h2 := ih (tget t.ks 2) (by have := wt3 hl; omega) (kid_all hm (by omega))
   have s0 := S 0 (by omega)
   have s1 := S 1 (by omega)
   have s2 := S 2 (by omega)
   rw [brK_3 hl, ← h0, ← h1, ← h2]
   simp [hk, s0, s1, s2, nodesS_node, nodesL_cons, nodesL_nil, nodesL_append, nodesS_atom, no_eff, no_rhos, no_at]
   try omega
end Disp
end Go.Proofs.YtkfkpjngiffamaaGreatDoor
namespace Go.Proofs.YtkfkpjngiffamaaGreatDoor
open Go.RowKit
set_option linter.unusedVariables false
set_option linter.unusedSimpArgs false
namespace Disp
open Rt (RT Hd RtIs wt wts wt_pos wt_ks wts_nil wts_cons wts_get wts_take_le cap63 box_new box4 tget take_tget)

mutual
theorem boxN_le : ∀ t : RT, boxN t ≤ wt t
 | .node h l => by
  have h1 := boxK_le l
  have h2 : wt (.node h l) = wts l + 1 := wt_ks (.node h l)
  rw [boxN, h2]
  split <;> omega
theorem boxK_le : ∀ l : List RT, boxK l ≤ wts l
 | [] => by rw [boxK_nil]; exact Nat.zero_le _
 | t :: ts => by
  have h1 := boxN_le t
  have h2 := boxK_le ts
  rw [boxK_cons, wts_cons]
  omega
end
theorem boxK_append : ∀ l k : List RT, boxK (l ++ k) = boxK l + boxK k
 | [], k => by rw [boxK_nil, Nat.zero_add]; rfl
 | t :: ts, k => by rw [List.cons_append, boxK_cons, boxK_cons, boxK_append ts k]; omega
theorem boxK_step (ts : List RT) (j : Nat) (hj : j < ts.length) : boxK (ts.take (j + 1)) = boxK (ts.take j) + boxN (tget ts j) := by
 rw [take_tget ts j hj, boxK_append, boxK_cons, boxK_nil]; omega
set_option maxRecDepth 10000 in
set_option maxHeartbeats 3200000 in
theorem boxed_walk : ∀ (m : Nat) (t : RT) (h : Hd) (pe : Option Addr) (ne ce : Nat) (p : Option Addr) (l c : Nat) (w : World), wt t ≤ m → m ≤ 1000000 → RtIs w h pe ne ce p l c t →
  Calls Tryz.prog 17 #[.agg #[.int .u8 h.k, .int .i64 h.r, .slice pe ne ce, .slice p l c]] w fun e w' => e = .returned (.int .i64 (boxN t : Nat)) ∧ Below w.heap.size w w' := by
 intro m
 induction m with
 | zero => intro t h pe ne ce p l c w hm; have := wt_pos t; omega
 | succ m ih =>
  intro t h pe ne ce p l c w hm hmm hT
  have hhd := hT.head
  have hbt := boxN_eq t
  rw [hhd] at hbt
  obtain ⟨k, v, e⟩ := h
  obtain ⟨hlc, hnc⟩ := cap63 hT
  have hbox : ∀ O : Obj, Below w.heap.size w (w.alloc O) := fun O => box_new O
  have hwt := wt_ks t
  have hcase : (decide ((1 : Int) < k) = true ∧ (1 : Int) < k ∧ boxN t = boxK t.ks + 1) ∨ (decide ((1 : Int) < k) = false ∧ ¬ (1 : Int) < k ∧ boxN t = boxK t.ks + 0) := by
   by_cases hk : (1 : Int) < k
   ·left; exact ⟨decide_eq_true hk, hk, by rw [hbt, if_pos hk]; omega⟩
   ·right; exact ⟨decide_eq_false hk, hk, by rw [hbt, if_neg hk]; omega⟩
  have HBOX := Lib.hid hbox; have IH := Lib.hid ih; have HT := Lib.hid hT; have HM := Lib.hid (And.intro hm hmm); have HWT := Lib.hid hwt
  clear ih hT hm hbox hwt hmm hhd hbt
  rcases hcase with ⟨g1, g2, hn⟩ | ⟨g1, g2, hn⟩
  all_goals
   have HN := Lib.hid hn
   clear hn
   go_enter Tryz.func17, Tryz.ntmps17
   go_wp2_with (fail)
   go_loopw [3, 4] (fun N i wr => ∃ (j M : Nat), j ≤ l ∧ i = .int .i64 j ∧ N = .int .i64 M ∧ M ≤ 1000001 ∧ Hid (M + boxK t.ks = boxK (t.ks.take j) + boxN t) ∧
    Hid (Below (w.alloc (.cells #[.int .u8 k, .int .i64 v, .slice pe ne ce, .slice p l c] 28)).heap.size (w.alloc (.cells #[.int .u8 k, .int .i64 v, .slice pe ne ce, .slice p l c] 28)) wr)) (fun _ i _ => l - (intOf i).toNat)
   case atStart => first | exact ⟨0, 1, Nat.zero_le _, rfl, rfl, by omega, Lib.hid (by rw [List.take_zero, boxK_nil, HN.out]; omega), Lib.hid (Below.refl _ _)⟩ | exact ⟨0, 0, Nat.zero_le _, rfl, rfl, by omega, Lib.hid (by rw [List.take_zero, boxK_nil, HN.out]; omega), Lib.hid (Below.refl _ _)⟩
   case round =>
    obtain ⟨j, M, hj, rfl, rfl, hM1, HLK, HW⟩ := hrel
    obtain ⟨b0, b1, b2, b3⟩ := box4 (N := w.heap.size) rfl HW.out
    have HWW := Lib.hid ((HBOX.out _).trans (HW.out.mono (HBOX.out _).size))
    by_cases hlt : j < l
    ·have hjk : j < t.ks.length := by rw [HT.out.len]; exact hlt
     have hst := boxK_step t.ks j hjk
     obtain ⟨b, o, q, c', qe, ce', rfl, hkid, c0, c1, c2, c3⟩ := (HT.out.kids.stay HWW.out).get j hjk
     have hwk := wts_get hjk
     have htl := wts_take_le t.ks (j + 1)
     have hbl := boxK_le (t.ks.take (j + 1))
     have HST := Lib.hid hst; have HK := Lib.hid hkid
     have HWK := Lib.hid hwk; have HTL := Lib.hid (Nat.le_trans hbl htl)
     clear hst hkid hwk hjk htl hbl
     go_wp2_with (fail)
     refine (IH.out (tget t.ks j) _ qe _ ce' q _ c' _ (by have := HM.out; have := HWK.out; have := HWT.out; omega) (by have := HM.out; omega) HK.out).mono ?_
     rintro e w2 ⟨rfl, hb2⟩
     have HW2 := Lib.hid (HW.out.trans (hb2.mono HW.out.size))
     clear hb2 b0 b1 b2 b3 c0 c1 c2 c3
     have hx0 : (M + boxN (tget t.ks j)) + boxK t.ks = boxK (t.ks.take (j + 1)) + boxN t := by have := HST.out; have := HLK.out; omega
     have hx1 : M + boxN (tget t.ks j) ≤ 1000001 := by have := HTL.out; have := HM.out; have := HWT.out; have := HN.out; omega
     have HX0 := Lib.hid hx0
     clear hx0
     generalize boxN (tget t.ks j) = X at *
     go_wp2
     go_roundw
     case rel => exact ⟨j + 1, M + X, by omega, by go_num, by go_num, hx1, HX0, HW2⟩
     case measure => simp [intOf]; omega
    ·obtain rfl : j = l := by omega
     have hr := HLK.out
     rw [List.take_of_length_le (by rw [HT.out.len]; exact Nat.le_refl _)] at hr
     have HR := Lib.hid (show M = boxN t by omega); clear hr
     go_wp2_with (fail)
     go_ret
     exact ⟨by rw [← HR.out]; rfl, HWW.out⟩
end Disp
end Go.Proofs.YtkfkpjngiffamaaGreatDoor

namespace Go.Proofs.YtkfkpjngiffamaaGreatDoor
open Go.RowKit
set_option linter.unusedVariables false
set_option linter.unusedSimpArgs false
namespace Disp
open Effect (At AtOk AtsAt Rd RdI ofA ret_i64 ret_bool lt_of_block heap_alloc_new own_slice digs NumLaid textE)
open Aterm (AT Hd V AtIs HdIs acells tget wt wts nodeB allT allK smallB Box box_of at_load exec_at range_below of_world atInfo)
open Rt (box_new below_then kw wAt wBang)
open Types (jb bl bl_inj bl_append bl_app bl_cons bl_one jb_one wInt wOpen wShut wStar wRef wArrow)

theorem add_run (a b c : ByteArray) (h : a ++ b = c) (hs : c.size ≤ 1000000000000) (W : World) : (Op.stringOp .add a b).run Tryz.prog W = .ok (.string c) W := by
 rw [run_string_add_sum, h]
 have : c.size = a.size + b.size := by rw [← h, ByteArray.size_append]
 omega
theorem ret_str {a b : ByteArray} (h : a = b) : Ending.returned (.string a) = .returned (.string b) := by rw [h]
end Disp
end Go.Proofs.YtkfkpjngiffamaaGreatDoor
namespace Go.Proofs.YtkfkpjngiffamaaGreatDoor
open Go.RowKit
open List (getElem_toArray getElem_cons_succ getElem_cons_zero setIfInBounds_toArray set_cons_zero set_cons_succ)
set_option linter.unusedVariables false
set_option linter.unusedSimpArgs false
namespace Disp
open Effect (At AtOk AtsAt Rd RdI ofA ret_i64 ret_bool lt_of_block heap_alloc_new own_slice digs NumLaid textE)
open Aterm (AT Hd V AtIs HdIs acells tget wt wts nodeB allT allK smallB Box box_of at_load at_load_g exec_at range_below of_world atInfo greatT small_of great_walk refMayA_walk row_new mayT refAll_walk AllAt flatT flatT_len allT_flat)
open Rt (box_new below_then kw wAt wBang rcells)
open Types (jb bl wInt wOpen wShut wStar wRef wArrow)

theorem br_in (x : ByteArray) (l : List ByteArray) : cntIn [x] l = cnt x l := by
 unfold cntIn cnt
 congr 1
 funext y
 simp [List.mem_singleton]
theorem br_two : ∀ l : List ByteArray, cntIn [wOpen, wShut] l = cnt wOpen l + cnt wShut l
 | [] => rfl
 | x :: l => by
  have ih := br_two l
  have hne : wOpen ≠ wShut := by decide
  have e : cntIn [wOpen, wShut] (x :: l) = cntIn [wOpen, wShut] l + if x ∈ [wOpen, wShut] then 1 else 0 := by unfold cntIn; rw [List.countP_cons]; simp
  rw [e, ih, cnt_cons, cnt_cons]
  by_cases h1 : x = wOpen
  ·rw [if_pos (by rw [h1]; simp), if_pos h1, if_neg (by rw [h1]; exact hne)]; omega
  ·by_cases h2 : x = wShut
   ·rw [if_pos (by rw [h2]; simp), if_neg h1, if_pos h2]; omega
   ·rw [if_neg (by simp [h1, h2]), if_neg h1, if_neg h2]; omega
theorem br_words {t : AT} (hm : allT nodeB t = true) : cntIn [wOpen] (wordsOf t) = brL (flatT t) ∧ cntIn [wShut] (wordsOf t) = brL (flatT t) ∧ cntIn [wOpen, wShut] (wordsOf t) = 2 * brL (flatT t) := by
 have e : wordsOf t = flatS (sx t) := by unfold wordsOf; rw [if_pos hm]
 have h := cnt_flat (good_sx hm)
 have hb := br_flat _ t (Nat.le_refl _) hm
 rw [br_in, br_in, br_two, e, h.1, h.2, hb]
 exact ⟨rfl, rfl, by omega⟩
theorem rowTy {W : World} {g o : Nat} {h : Hd} {v : V} {l : Nat} (k : W.rangeAt g o (acells h v l)) : W.rangeAt g (o + 10) (rcells h.ty v.tea v.tec v.tka v.tkc) := by
 intro j x hx
 match j, hx with
 | 0, hx => cases hx; exact k 10 _ rfl
 | 1, hx => cases hx; exact k 11 _ rfl
 | 2, hx => cases hx; exact k 12 _ rfl
 | 3, hx => cases hx; exact k 13 _ rfl
 | j + 4, hx => simp at hx
theorem rowRe {W : World} {g o : Nat} {h : Hd} {v : V} {l : Nat} (k : W.rangeAt g o (acells h v l)) : W.rangeAt g (o + 14) (rcells h.re v.sea v.sec v.ska v.skc) := by
 intro j x hx
 match j, hx with
 | 0, hx => cases hx; exact k 14 _ rfl
 | 1, hx => cases hx; exact k 15 _ rfl
 | 2, hx => cases hx; exact k 16 _ rfl
 | 3, hx => cases hx; exact k 17 _ rfl
 | j + 4, hx => simp at hx
theorem brL_step (F : List AT) (j : Nat) (hj : j < F.length) : brL (F.take (j + 1)) = brL (F.take j) + cost (tget F j).h := by
 rw [Aterm.take_tget F j hj, brL_append, brL_cons, brL_nil]; omega
set_option maxRecDepth 100000 in
set_option maxHeartbeats 25600000 in
theorem bracketsLaw_walk (h : Hd) (v : V) (l : Nat) (t : AT) (w : World) (hT : AtIs w h v l t) (hla : Laid w) (hfl : FldLaid w) :
  Calls Tryz.prog 5 #[.agg #[.int .u8 h.h.k, .int .u8 h.h.op, .int .i64 h.h.pl, .int .i64 h.h.n, .string h.h.name, .string h.h.arg, .string h.h.exn, .int .i64 h.rho, .slice v.ra h.rhos.length v.rc, .slice v.ea h.e.length v.ec, .int .u8 h.ty.h.k, .int .i64 h.ty.h.r, .slice v.tea h.ty.h.e.length v.tec, .slice v.tka h.ty.ks.length v.tkc, .int .u8 h.re.h.k, .int .i64 h.re.h.r, .slice v.sea h.re.h.e.length v.sec, .slice v.ska h.re.ks.length v.skc, .slice v.ka l v.kc]] w fun e w' => e = .returned (.bool true) ∧ Below w.heap.size w w' := by
 have haw := fun (W : World) (hb : Below w.heap.size w W) => awake_walk W (hla.below hb)
 have hg1 := fun (W : World) (hb : Below w.heap.size w W) => great_walk t h v l W (hT.below hb)
 have HAW := Lib.hid haw; have HG1 := Lib.hid hg1; have HT := Lib.hid hT; have HLA := Lib.hid hla; have HFL := Lib.hid hfl
 clear haw hg1 hT hla hfl
 go_enter Tryz.func5, Tryz.ntmps5
 go_upto_region 1 with (fail)
 refine of_world (F := fun V => Below w.heap.size w V ∧ V.rangeAt w.heap.size 0 (acells h v l)) ⟨box_new _, row_new rfl⟩ ?_
 rintro W0 ⟨hb0, hr0⟩
 generalize hN1 : w.heap.size = N1 at hr0 ⊢
 have HN1 := Lib.hid hN1
 have HC0 := Lib.hid hb0; have HR0 := Lib.hid hr0
 clear hb0 hr0 hN1
 go_wp2_with (refine at_load rfl _ rfl N1 0 rfl HR0.out ?_)
 refine (HG1.out W0 HC0.out).mono ?_
 rintro e w1 ⟨rfl, hb1⟩
 have HC1 := Lib.hid (below_then HC0.out hb1 HC0.out.size); have HR1 := Lib.hid (range_below HR0.out hb1)
 clear hb1 HC0 HR0
 clear W0
 cases hq1 : greatT t
 case true =>
  go_wp2_with (fail)
  refine (HAW.out w1 HC1.out).mono ?_
  rintro e w2 ⟨rfl, hb2⟩
  have HC2 := Lib.hid (below_then HC1.out hb2 HC1.out.size)
  clear hb2
  go_wp2_with (fail)
  go_ret
  exact ⟨rfl, HC2.out⟩
 have hs1 := small_of hq1
 clear hq1
 have hd := fun (W : World) (hb : Below w.heap.size w W) => refMayA_walk t h v l W (HT.out.below hb) (by omega) hs1.2
 have hme := may_small (t := t) (by omega)
 have HD := Lib.hid hd; have HME := Lib.hid hme; have HS1 := Lib.hid hs1
 clear hd hme hs1
 go_wp2_with (first | refine at_load rfl _ rfl N1 0 rfl HR1.out ?_ | refine at_load_g (by rfl) _ rfl N1 0 rfl HR1.out ?_)
 refine (HD.out w1 HC1.out).mono ?_
 rintro e w3 ⟨rfl, hb3⟩
 have HC3 := Lib.hid (below_then HC1.out hb3 HC1.out.size); have HR3 := Lib.hid (range_below HR1.out hb3)
 clear hb3
 rw [HME.out]
 cases hm : allT nodeB t
 ·clear hm
  go_wp2_with (fail)
  refine (HAW.out w3 HC3.out).mono ?_
  rintro e w5 ⟨rfl, hb5⟩
  have HC5 := Lib.hid (below_then HC3.out hb5 HC3.out.size)
  clear hb5
  go_wp2_with (fail)
  go_ret
  exact ⟨rfl, HC5.out⟩
 have hw5 : wt t ≤ 500 := by have := HS1.out.1; omega
 have hco := fun (W : World) (hb : Below w.heap.size w W) => count_walk t h v l [wOpen] (some ⟨W.heap.size, 0, none⟩) 1 1 (W.alloc (.cells #[.string ⟨#[40]⟩] 9)) ((HT.out.below hb).below (box_new _)) hw5 HS1.out.2 (Src.new W [wOpen] _ _) (by omega) ⟨Nat.le_refl _, by unfold maxLen; omega⟩ (fun x hx => by simp only [List.mem_cons, List.not_mem_nil, or_false] at hx; rcases hx with rfl <;> decide) ((HLA.out.below hb).below (box_new _)) ((HFL.out.below hb).below (box_new _))
 have hcs := fun (W : World) (hb : Below w.heap.size w W) => count_walk t h v l [wShut] (some ⟨W.heap.size, 0, none⟩) 1 1 (W.alloc (.cells #[.string ⟨#[41]⟩] 9)) ((HT.out.below hb).below (box_new _)) hw5 HS1.out.2 (Src.new W [wShut] _ _) (by omega) ⟨Nat.le_refl _, by unfold maxLen; omega⟩ (fun x hx => by simp only [List.mem_cons, List.not_mem_nil, or_false] at hx; rcases hx with rfl <;> decide) ((HLA.out.below hb).below (box_new _)) ((HFL.out.below hb).below (box_new _))
 have hcb := fun (W : World) (hb : Below w.heap.size w W) => count_walk t h v l [wOpen, wShut] (some ⟨W.heap.size, 0, none⟩) 2 2 (W.alloc (.cells #[.string ⟨#[40]⟩, .string ⟨#[41]⟩] 9)) ((HT.out.below hb).below (box_new _)) hw5 HS1.out.2 (Src.new W [wOpen, wShut] _ _) (by omega) ⟨Nat.le_refl _, by unfold maxLen; omega⟩ (fun x hx => by simp only [List.mem_cons, List.not_mem_nil, or_false] at hx; rcases hx with rfl | rfl <;> decide) ((HLA.out.below hb).below (box_new _)) ((HFL.out.below hb).below (box_new _))
 obtain ⟨e1, e2, e3⟩ := br_words hm
 rw [e1] at hco
 rw [e2] at hcs
 rw [e3] at hcb
 have hsm := HS1.out.2
 rw [allT_flat, List.all_eq_true] at hsm
 have HCO := Lib.hid hco; have HCS := Lib.hid hcs; have HCB := Lib.hid hcb; have HSM := Lib.hid hsm
 have hfl := flatT_len t
 have hw4 : wt t ≤ 400 := by have := HS1.out.1; omega
 clear hco hcs hcb e1 e2 e3 hm hw5 hsm
 go_wp2_with (first | refine at_load rfl _ rfl N1 0 rfl HR3.out ?_ | refine at_load_g (by rfl) _ rfl N1 0 rfl HR3.out ?_)
 refine (refAll_walk (wt t) t h v l w w3 (Nat.le_refl _) (by omega) HT.out HC3.out).mono ?_
 rintro e w4 ⟨g, c4, xs, rfl, hown4, hfl4, hb4⟩
 have hall : AllAt w w4 g c4 (flatT t) := ⟨_, xs, by rw [hfl]; exact hown4, hfl4⟩
 have HC4 := Lib.hid (below_then HC3.out hb4 HC3.out.size); have HALL := Lib.hid hall; have HR4 := Lib.hid (range_below HR3.out hb4)
 clear hown4 hfl4 hb4 hall
 generalize flatT t = F at *
 obtain ⟨n, hn⟩ : ∃ n, n = wt t := ⟨_, rfl⟩
 rw [← hn] at hfl hw4 ⊢
 have hn4 : (n : Int) ≤ 400 := by omega
 have HLEN := Lib.hid hfl; have HNN := Lib.hid hn
 clear hfl hn
 go_wp2_with (fail)
 go_loopw [4, 5] (fun s4 i wr => ∃ j M : Nat, j ≤ n ∧ i = .int .i64 j ∧ s4 = .int .i64 (M : Nat) ∧ M ≤ 201 * j ∧ Hid (M = brL (F.take j)) ∧ Hid (Below w.heap.size w wr) ∧ Hid (AllAt w wr g c4 F) ∧ Hid (wr.rangeAt N1 0 (acells h v l))) (fun _ i _ => n - (intOf i).toNat)
 case atStart => exact ⟨0, 0, Nat.zero_le _, rfl, rfl, Nat.zero_le _, Lib.hid (by rw [List.take_zero, brL_nil]), HC4, HALL, HR4⟩
 case round =>
  obtain ⟨j, M, hj, rfl, rfl, hM, HM, HW, HA, HRW⟩ := hrel
  by_cases hlt : j < n
  ·have hjf : j < F.length := by rw [HLEN.out]; exact hlt
   obtain ⟨v', hat, hrg⟩ := HA.out.get j hjf
   have c0 : wr.cell? ⟨g, j * 19, none⟩ = some (.int .u8 (tget F j).h.h.k) := by have := hrg 0 _ rfl; simpa using this
   have hstep := brL_step F j hjf
   have hin : tget F j ∈ F := List.mem_of_getElem? (Aterm.tget_at hjf)
   have hsb := HSM.out _ hin
   have hlg := Aterm.long_no (h := (tget F j).h) (by unfold smallB at hsb; simpa using hsb)
   have hz1 := (Rt.small_of hlg.2.2.1).1
   have hz2 := (Rt.small_of hlg.2.2.2).1
   have hy1 := boxN_le (tget F j).h.ty
   have hy2 := boxN_le (tget F j).h.re
   have hbx1 := fun (W : World) (hb : Below w.heap.size w W) => boxed_walk _ (tget F j).h.ty _ _ _ _ _ _ _ W (Nat.le_refl _) (by omega) (hat.ok.ty.below hb)
   have hbx2 := fun (W : World) (hb : Below w.heap.size w W) => boxed_walk _ (tget F j).h.re _ _ _ _ _ _ _ W (Nat.le_refl _) (by omega) (hat.ok.re.below hb)
   have hq1 : boxN (tget F j).h.ty ≤ 100 := by omega
   have hq2 : boxN (tget F j).h.re ≤ 100 := by omega
   have hrt := rowTy hrg
   have hrr := rowRe hrg
   have j0 : (0 : Int) ≤ (j : Int) := by omega
   have j1 : (j : Int) < (n : Int) := by omega
   unfold cost at hstep
   have HBX1 := Lib.hid hbx1; have HBX2 := Lib.hid hbx2; have HRT := Lib.hid hrt; have HRR := Lib.hid hrr
   clear hbx1 hbx2 hrt hrr hat hrg hjf hin hsb hlg hz1 hz2 hy1 hy2
   generalize hU : tget F j = U at *
   generalize boxN U.h.ty = y1 at *
   generalize boxN U.h.re = y2 at *
   clear hU
   generalize hKK : U.h.h.k = k at *
   clear hKK
   have hcase : ∃ d : Nat, d ≤ 1 ∧ brL (F.take (j + 1)) = brL (F.take j) + (d + (y1 + y2)) ∧ ((d = 1 ∧ decide ((2 : Int) < k) = true ∧ (2 : Int) < k) ∨ (d = 0 ∧ decide ((2 : Int) < k) = false ∧ ¬ (2 : Int) < k)) := by
    by_cases hk : (2 : Int) < k
    ·exact ⟨1, by omega, by rw [hstep, if_pos hk], .inl ⟨rfl, decide_eq_true hk, hk⟩⟩
    ·exact ⟨0, by omega, by rw [hstep, if_neg hk], .inr ⟨rfl, decide_eq_false hk, hk⟩⟩
   obtain ⟨d, hd1, hst, hcs⟩ := hcase
   have HST := Lib.hid hst
   clear hst hstep
   rcases hcs with ⟨rfl, g1, g2⟩ | ⟨rfl, g1, g2⟩
   ·go_upto_region 10 with (fail)
    refine wp_region_held_drew (S := fun (V : World) => Below wr.heap.size wr V) (by kernel_rfl) ((Below.refl _ _).drew) (fun hHeld => ?_)
    have hini : Below wr.heap.size wr wr.drew := (Below.refl _ _).drew
    generalize wr.drew = v0 at *
    have HS0 := Lib.hid hini
    clear hini
    refine tk (i := 0) (v := .int .i64 ((M : Int) + 1)) rfl (by kernel_rfl) (fun _ _ _ h => h) (by rfl) ?_ (by assumption) ?_
    ·intro w' hSw
     first | (go_simp; done) | (go_simp; intro h0; omega) | rfl
    try simp only [Act.put, getElem_toArray, getElem_cons_succ, getElem_cons_zero, setIfInBounds_toArray, set_cons_zero, set_cons_succ]
    refine tk (i := 1) (v := .slice (some ⟨g, 0, none⟩) n c4) rfl (by kernel_rfl) (fun _ _ _ h => h) (by rfl) ?_ (by assumption) ?_
    ·intro w' hSw
     first | (go_simp; done) | (go_simp; intro h0; omega) | rfl
    try simp only [Act.put, getElem_toArray, getElem_cons_succ, getElem_cons_zero, setIfInBounds_toArray, set_cons_zero, set_cons_succ]
    refine tk (i := 2) (v := .int .i64 (j : Int)) rfl (by kernel_rfl) (fun _ _ _ h => h) (by rfl) ?_ (by assumption) ?_
    ·intro w' hSw
     first | (go_simp; done) | (go_simp; intro h0; omega) | rfl
    try simp only [Act.put, getElem_toArray, getElem_cons_succ, getElem_cons_zero, setIfInBounds_toArray, set_cons_zero, set_cons_succ]
    refine tk (i := 3) (v := .pointer (some ⟨g, j * 19, none⟩)) rfl (by kernel_rfl) (fun _ _ _ h => h) (by rfl) ?_ (by assumption) ?_
    ·intro w' hSw
     first | (go_simp; done) | (go_simp; intro h0; omega) | rfl
    try simp only [Act.put, getElem_toArray, getElem_cons_succ, getElem_cons_zero, setIfInBounds_toArray, set_cons_zero, set_cons_succ]
    refine tk (i := 4) (v := .pointer (some ⟨g, j * 19 + 10, none⟩)) rfl (by kernel_rfl) (fun _ _ _ h => h) (by rfl) ?_ (by assumption) ?_
    ·intro w' hSw
     first | (go_simp; done) | (go_simp; intro h0; omega) | rfl
    try simp only [Act.put, getElem_toArray, getElem_cons_succ, getElem_cons_zero, setIfInBounds_toArray, set_cons_zero, set_cons_succ]
    refine tk (i := 5) (v := .agg #[.int .u8 U.h.ty.h.k, .int .i64 U.h.ty.h.r, .slice v'.tea U.h.ty.h.e.length v'.tec, .slice v'.tka U.h.ty.ks.length v'.tkc]) rfl (by kernel_rfl) (fun _ _ _ h => h) (by rfl) ?_ (by assumption) ?_
    ·intro w' hSw
     exact exec_rt _ rfl g (j * 19 + 10) rfl (range_below HRT.out hSw)
    try simp only [Act.put, getElem_toArray, getElem_cons_succ, getElem_cons_zero, setIfInBounds_toArray, set_cons_zero, set_cons_succ]
    refine tk (i := 7) (v := .slice (some ⟨g, 0, none⟩) n c4) rfl (by kernel_rfl) (fun _ _ _ h => h) (by rfl) ?_ (by assumption) ?_
    ·intro w' hSw
     first | (go_simp; done) | (go_simp; intro h0; omega) | rfl
    try simp only [Act.put, getElem_toArray, getElem_cons_succ, getElem_cons_zero, setIfInBounds_toArray, set_cons_zero, set_cons_succ]
    refine tk (i := 8) (v := .int .i64 (j : Int)) rfl (by kernel_rfl) (fun _ _ _ h => h) (by rfl) ?_ (by assumption) ?_
    ·intro w' hSw
     first | (go_simp; done) | (go_simp; intro h0; omega) | rfl
    try simp only [Act.put, getElem_toArray, getElem_cons_succ, getElem_cons_zero, setIfInBounds_toArray, set_cons_zero, set_cons_succ]
    refine tk (i := 9) (v := .pointer (some ⟨g, j * 19, none⟩)) rfl (by kernel_rfl) (fun _ _ _ h => h) (by rfl) ?_ (by assumption) ?_
    ·intro w' hSw
     first | (go_simp; done) | (go_simp; intro h0; omega) | rfl
    try simp only [Act.put, getElem_toArray, getElem_cons_succ, getElem_cons_zero, setIfInBounds_toArray, set_cons_zero, set_cons_succ]
    refine tk (i := 10) (v := .pointer (some ⟨g, j * 19 + 14, none⟩)) rfl (by kernel_rfl) (fun _ _ _ h => h) (by rfl) ?_ (by assumption) ?_
    ·intro w' hSw
     first | (go_simp; done) | (go_simp; intro h0; omega) | rfl
    try simp only [Act.put, getElem_toArray, getElem_cons_succ, getElem_cons_zero, setIfInBounds_toArray, set_cons_zero, set_cons_succ]
    refine tk (i := 11) (v := .agg #[.int .u8 U.h.re.h.k, .int .i64 U.h.re.h.r, .slice v'.sea U.h.re.h.e.length v'.sec, .slice v'.ska U.h.re.ks.length v'.skc]) rfl (by kernel_rfl) (fun _ _ _ h => h) (by rfl) ?_ (by assumption) ?_
    ·intro w' hSw
     exact exec_rt _ rfl g (j * 19 + 14) rfl (range_below HRR.out hSw)
    try simp only [Act.put, getElem_toArray, getElem_cons_succ, getElem_cons_zero, setIfInBounds_toArray, set_cons_zero, set_cons_succ]
    refine wpAnyH_ready (rs := [6]) (by kernel_rfl) (by simp) ?_
    refine AllReadyH.cons rfl (fun K hK => ?_) AllReadyH.nil
    have HK2 := Lib.hid hK
    clear hK
    try rw [if_pos (by rfl)]
    go_simp
    refine (HBX1.out _ (below_then HW.out HS0.out HW.out.size)).mono ?_
    rintro e va ⟨rfl, hbb⟩
    have HSa := Lib.hid (below_then HS0.out hbb HS0.out.size)
    clear hbb
    refine HK2.out _ _ HSa.out (fun hHeld => ?_)
    clear HK2
    try simp only [Act.put, getElem_toArray, getElem_cons_succ, getElem_cons_zero, setIfInBounds_toArray, set_cons_zero, set_cons_succ]
    clear K
    refine wpAnyH_ready (rs := [12]) (by kernel_rfl) (by simp) ?_
    refine AllReadyH.cons rfl (fun K hK => ?_) AllReadyH.nil
    have HK2 := Lib.hid hK
    clear hK
    try rw [if_pos (by rfl)]
    go_simp
    refine (HBX2.out _ (below_then HW.out HSa.out HW.out.size)).mono ?_
    rintro e vb ⟨rfl, hbb⟩
    have HSb := Lib.hid (below_then HSa.out hbb HSa.out.size)
    clear hbb
    refine HK2.out _ _ HSb.out (fun hHeld => ?_)
    clear HK2
    try simp only [Act.put, getElem_toArray, getElem_cons_succ, getElem_cons_zero, setIfInBounds_toArray, set_cons_zero, set_cons_succ]
    clear K
    refine wpAnyH_ready (rs := [13]) (by kernel_rfl) (by simp) ?_
    refine AllReadyH.cons rfl (fun K hK => ?_) AllReadyH.nil
    have HK2 := Lib.hid hK
    clear hK
    try rw [if_pos (by rfl)]
    go_simp
    refine HK2.out _ _ HSb.out (fun hHeld => ?_)
    clear HK2
    try simp only [Act.put, getElem_toArray, getElem_cons_succ, getElem_cons_zero, setIfInBounds_toArray, set_cons_zero, set_cons_succ]
    clear K
    refine wpAnyH_ready (rs := [14]) (by kernel_rfl) (by simp) ?_
    refine AllReadyH.cons rfl (fun K hK => ?_) AllReadyH.nil
    have HK2 := Lib.hid hK
    clear hK
    try rw [if_pos (by rfl)]
    go_simp
    refine HK2.out _ _ HSb.out (fun hHeld => ?_)
    clear HK2
    try simp only [Act.put, getElem_toArray, getElem_cons_succ, getElem_cons_zero, setIfInBounds_toArray, set_cons_zero, set_cons_succ]
    clear K
    refine wpAnyH_ready (rs := [15]) (by kernel_rfl) (by simp) ?_
    refine AllReadyH.cons rfl (fun K hK => ?_) AllReadyH.nil
    have HK2 := Lib.hid hK
    clear hK
    try rw [if_pos (by rfl)]
    go_simp
    refine HK2.out _ _ HSb.out (fun hHeld => ?_)
    clear HK2
    try simp only [Act.put, getElem_toArray, getElem_cons_succ, getElem_cons_zero, setIfInBounds_toArray, set_cons_zero, set_cons_succ]
    clear K
    refine wpAnyH_done (by kernel_rfl) ?_ _
    clear hHeld
    go_wp2_with (fail)
    have w1 : IntKind.i64.wrap ((y1 : Int) + (y2 : Int)) = (y1 : Int) + (y2 : Int) := IntWalk.i64_in _ (by omega)
    have w2 : IntKind.i64.wrap ((M : Int) + 1 + ((y1 : Int) + (y2 : Int))) = (M : Int) + 1 + ((y1 : Int) + (y2 : Int)) := IntWalk.i64_in _ (by omega)
    go_roundw
    case rel => exact ⟨j + 1, M + (1 + (y1 + y2)), by omega, by go_num, by rw [w1, w2]; first | (congr 1; omega) | go_num, by omega, Lib.hid (by have := HST.out; have := HM.out; omega), Lib.hid (below_then HW.out HSb.out HW.out.size), Lib.hid (HA.out.below HSb.out), Lib.hid (range_below HRW.out HSb.out)⟩
    case measure => simp [intOf]; omega
   ·go_upto_region 10 with (fail)
    refine wp_region_held_drew (S := fun (V : World) => Below wr.heap.size wr V) (by kernel_rfl) ((Below.refl _ _).drew) (fun hHeld => ?_)
    have hini : Below wr.heap.size wr wr.drew := (Below.refl _ _).drew
    generalize wr.drew = v0 at *
    have HS0 := Lib.hid hini
    clear hini
    refine tk (i := 0) (v := .int .i64 (M : Int)) rfl (by kernel_rfl) (fun _ _ _ h => h) (by rfl) ?_ (by assumption) ?_
    ·intro w' hSw
     first | (go_simp; done) | (go_simp; intro h0; omega) | rfl
    try simp only [Act.put, getElem_toArray, getElem_cons_succ, getElem_cons_zero, setIfInBounds_toArray, set_cons_zero, set_cons_succ]
    refine tk (i := 1) (v := .slice (some ⟨g, 0, none⟩) n c4) rfl (by kernel_rfl) (fun _ _ _ h => h) (by rfl) ?_ (by assumption) ?_
    ·intro w' hSw
     first | (go_simp; done) | (go_simp; intro h0; omega) | rfl
    try simp only [Act.put, getElem_toArray, getElem_cons_succ, getElem_cons_zero, setIfInBounds_toArray, set_cons_zero, set_cons_succ]
    refine tk (i := 2) (v := .int .i64 (j : Int)) rfl (by kernel_rfl) (fun _ _ _ h => h) (by rfl) ?_ (by assumption) ?_
    ·intro w' hSw
     first | (go_simp; done) | (go_simp; intro h0; omega) | rfl
    try simp only [Act.put, getElem_toArray, getElem_cons_succ, getElem_cons_zero, setIfInBounds_toArray, set_cons_zero, set_cons_succ]
    refine tk (i := 3) (v := .pointer (some ⟨g, j * 19, none⟩)) rfl (by kernel_rfl) (fun _ _ _ h => h) (by rfl) ?_ (by assumption) ?_
    ·intro w' hSw
     first | (go_simp; done) | (go_simp; intro h0; omega) | rfl
    try simp only [Act.put, getElem_toArray, getElem_cons_succ, getElem_cons_zero, setIfInBounds_toArray, set_cons_zero, set_cons_succ]
    refine tk (i := 4) (v := .pointer (some ⟨g, j * 19 + 10, none⟩)) rfl (by kernel_rfl) (fun _ _ _ h => h) (by rfl) ?_ (by assumption) ?_
    ·intro w' hSw
     first | (go_simp; done) | (go_simp; intro h0; omega) | rfl
    try simp only [Act.put, getElem_toArray, getElem_cons_succ, getElem_cons_zero, setIfInBounds_toArray, set_cons_zero, set_cons_succ]
    refine tk (i := 5) (v := .agg #[.int .u8 U.h.ty.h.k, .int .i64 U.h.ty.h.r, .slice v'.tea U.h.ty.h.e.length v'.tec, .slice v'.tka U.h.ty.ks.length v'.tkc]) rfl (by kernel_rfl) (fun _ _ _ h => h) (by rfl) ?_ (by assumption) ?_
    ·intro w' hSw
     exact exec_rt _ rfl g (j * 19 + 10) rfl (range_below HRT.out hSw)
    try simp only [Act.put, getElem_toArray, getElem_cons_succ, getElem_cons_zero, setIfInBounds_toArray, set_cons_zero, set_cons_succ]
    refine tk (i := 7) (v := .slice (some ⟨g, 0, none⟩) n c4) rfl (by kernel_rfl) (fun _ _ _ h => h) (by rfl) ?_ (by assumption) ?_
    ·intro w' hSw
     first | (go_simp; done) | (go_simp; intro h0; omega) | rfl
    try simp only [Act.put, getElem_toArray, getElem_cons_succ, getElem_cons_zero, setIfInBounds_toArray, set_cons_zero, set_cons_succ]
    refine tk (i := 8) (v := .int .i64 (j : Int)) rfl (by kernel_rfl) (fun _ _ _ h => h) (by rfl) ?_ (by assumption) ?_
    ·intro w' hSw
     first | (go_simp; done) | (go_simp; intro h0; omega) | rfl
    try simp only [Act.put, getElem_toArray, getElem_cons_succ, getElem_cons_zero, setIfInBounds_toArray, set_cons_zero, set_cons_succ]
    refine tk (i := 9) (v := .pointer (some ⟨g, j * 19, none⟩)) rfl (by kernel_rfl) (fun _ _ _ h => h) (by rfl) ?_ (by assumption) ?_
    ·intro w' hSw
     first | (go_simp; done) | (go_simp; intro h0; omega) | rfl
    try simp only [Act.put, getElem_toArray, getElem_cons_succ, getElem_cons_zero, setIfInBounds_toArray, set_cons_zero, set_cons_succ]
    refine tk (i := 10) (v := .pointer (some ⟨g, j * 19 + 14, none⟩)) rfl (by kernel_rfl) (fun _ _ _ h => h) (by rfl) ?_ (by assumption) ?_
    ·intro w' hSw
     first | (go_simp; done) | (go_simp; intro h0; omega) | rfl
    try simp only [Act.put, getElem_toArray, getElem_cons_succ, getElem_cons_zero, setIfInBounds_toArray, set_cons_zero, set_cons_succ]
    refine tk (i := 11) (v := .agg #[.int .u8 U.h.re.h.k, .int .i64 U.h.re.h.r, .slice v'.sea U.h.re.h.e.length v'.sec, .slice v'.ska U.h.re.ks.length v'.skc]) rfl (by kernel_rfl) (fun _ _ _ h => h) (by rfl) ?_ (by assumption) ?_
    ·intro w' hSw
     exact exec_rt _ rfl g (j * 19 + 14) rfl (range_below HRR.out hSw)
    try simp only [Act.put, getElem_toArray, getElem_cons_succ, getElem_cons_zero, setIfInBounds_toArray, set_cons_zero, set_cons_succ]
    refine wpAnyH_ready (rs := [6]) (by kernel_rfl) (by simp) ?_
    refine AllReadyH.cons rfl (fun K hK => ?_) AllReadyH.nil
    have HK2 := Lib.hid hK
    clear hK
    try rw [if_pos (by rfl)]
    go_simp
    refine (HBX1.out _ (below_then HW.out HS0.out HW.out.size)).mono ?_
    rintro e va ⟨rfl, hbb⟩
    have HSa := Lib.hid (below_then HS0.out hbb HS0.out.size)
    clear hbb
    refine HK2.out _ _ HSa.out (fun hHeld => ?_)
    clear HK2
    try simp only [Act.put, getElem_toArray, getElem_cons_succ, getElem_cons_zero, setIfInBounds_toArray, set_cons_zero, set_cons_succ]
    clear K
    refine wpAnyH_ready (rs := [12]) (by kernel_rfl) (by simp) ?_
    refine AllReadyH.cons rfl (fun K hK => ?_) AllReadyH.nil
    have HK2 := Lib.hid hK
    clear hK
    try rw [if_pos (by rfl)]
    go_simp
    refine (HBX2.out _ (below_then HW.out HSa.out HW.out.size)).mono ?_
    rintro e vb ⟨rfl, hbb⟩
    have HSb := Lib.hid (below_then HSa.out hbb HSa.out.size)
    clear hbb
    refine HK2.out _ _ HSb.out (fun hHeld => ?_)
    clear HK2
    try simp only [Act.put, getElem_toArray, getElem_cons_succ, getElem_cons_zero, setIfInBounds_toArray, set_cons_zero, set_cons_succ]
    clear K
    refine wpAnyH_ready (rs := [13]) (by kernel_rfl) (by simp) ?_
    refine AllReadyH.cons rfl (fun K hK => ?_) AllReadyH.nil
    have HK2 := Lib.hid hK
    clear hK
    try rw [if_pos (by rfl)]
    go_simp
    refine HK2.out _ _ HSb.out (fun hHeld => ?_)
    clear HK2
    try simp only [Act.put, getElem_toArray, getElem_cons_succ, getElem_cons_zero, setIfInBounds_toArray, set_cons_zero, set_cons_succ]
    clear K
    refine wpAnyH_ready (rs := [14]) (by kernel_rfl) (by simp) ?_
    refine AllReadyH.cons rfl (fun K hK => ?_) AllReadyH.nil
    have HK2 := Lib.hid hK
    clear hK
    try rw [if_pos (by rfl)]
    go_simp
    refine HK2.out _ _ HSb.out (fun hHeld => ?_)
    clear HK2
    try simp only [Act.put, getElem_toArray, getElem_cons_succ, getElem_cons_zero, setIfInBounds_toArray, set_cons_zero, set_cons_succ]
    clear K
    refine wpAnyH_ready (rs := [15]) (by kernel_rfl) (by simp) ?_
    refine AllReadyH.cons rfl (fun K hK => ?_) AllReadyH.nil
    have HK2 := Lib.hid hK
    clear hK
    try rw [if_pos (by rfl)]
    go_simp
    refine HK2.out _ _ HSb.out (fun hHeld => ?_)
    clear HK2
    try simp only [Act.put, getElem_toArray, getElem_cons_succ, getElem_cons_zero, setIfInBounds_toArray, set_cons_zero, set_cons_succ]
    clear K
    refine wpAnyH_done (by kernel_rfl) ?_ _
    clear hHeld
    go_wp2_with (fail)
    have w1 : IntKind.i64.wrap ((y1 : Int) + (y2 : Int)) = (y1 : Int) + (y2 : Int) := IntWalk.i64_in _ (by omega)
    have w2 : IntKind.i64.wrap ((M : Int) + ((y1 : Int) + (y2 : Int))) = (M : Int) + ((y1 : Int) + (y2 : Int)) := IntWalk.i64_in _ (by omega)
    go_roundw
    case rel => exact ⟨j + 1, M + (0 + (y1 + y2)), by omega, by go_num, by rw [w1, w2]; first | (congr 1; omega) | go_num, by omega, Lib.hid (by have := HST.out; have := HM.out; omega), Lib.hid (below_then HW.out HSb.out HW.out.size), Lib.hid (HA.out.below HSb.out), Lib.hid (range_below HRW.out HSb.out)⟩
    case measure => simp [intOf]; omega
  ·obtain rfl : n = j := by omega
   have hall : F.take n = F := List.take_of_length_le (by rw [HLEN.out]; exact Nat.le_refl _)
   have hq := HM.out
   rw [hall] at hq
   subst hq
   have hq4 : ((brL F : Nat) : Int) ≤ 80400 := by omega
   have hq0 : (0 : Int) ≤ ((brL F : Nat) : Int) := by omega
   have hcb := HCB.out
   rw [show ((2 * brL F : Nat) : Int) = 2 * ((brL F : Nat) : Int) by omega] at hcb
   have HCD := Lib.hid hcb
   clear hcb HCB hall hM HM hlt hj
   generalize ((brL F : Nat) : Int) = q at *
   go_wp2_with (first | refine at_load rfl _ rfl N1 0 rfl HRW.out ?_ | refine at_load_g (by rfl) _ rfl N1 0 rfl HRW.out ?_)
   refine (HCO.out wr HW.out).mono ?_
   rintro e w5 ⟨rfl, hb5⟩
   have HC5 := Lib.hid (below_then (below_then HW.out (box_new _) HW.out.size) hb5 (Nat.le_trans HW.out.size (by simp))); have HR5 := Lib.hid (range_below (range_below HRW.out (box_new _)) hb5)
   clear hb5
   go_wp2_with (first | refine at_load rfl _ rfl N1 0 rfl HR5.out ?_ | refine at_load_g (by rfl) _ rfl N1 0 rfl HR5.out ?_)
   refine (HCS.out w5 HC5.out).mono ?_
   rintro e w6 ⟨rfl, hb6⟩
   have HC6 := Lib.hid (below_then (below_then HC5.out (box_new _) HC5.out.size) hb6 (Nat.le_trans HC5.out.size (by simp))); have HR6 := Lib.hid (range_below (range_below HR5.out (box_new _)) hb6)
   clear hb6
   go_wp2_with (first | refine at_load rfl _ rfl N1 0 rfl HR6.out ?_ | refine at_load_g (by rfl) _ rfl N1 0 rfl HR6.out ?_)
   refine (HCD.out w6 HC6.out).mono ?_
   rintro e w7 ⟨rfl, hb7⟩
   have HC7 := Lib.hid (below_then (below_then HC6.out (box_new _) HC6.out.size) hb7 (Nat.le_trans HC6.out.size (by simp)))
   clear hb7
   go_wp2_with (fail)
   refine (HAW.out w7 HC7.out).mono ?_
   rintro e w8 ⟨rfl, hb8⟩
   have HC8 := Lib.hid (below_then HC7.out hb8 HC7.out.size)
   clear hb8
   go_wp2_with (fail)
   go_ret
   exact ⟨rfl, HC8.out⟩
end Disp
end Go.Proofs.YtkfkpjngiffamaaGreatDoor
