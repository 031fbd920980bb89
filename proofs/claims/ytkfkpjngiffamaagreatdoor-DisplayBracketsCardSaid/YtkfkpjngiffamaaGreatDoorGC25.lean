import Derived.Test.YtkfkpjngiffamaaGreatDoorGC15
import Derived.Test.YtkfkpjngiffamaaGreatDoorGC13
import Derived.Test.YtkfkpjngiffamaaGreatDoorGC24
import Derived.Test.YtkfkpjngiffamaaGreatDoorGC01
import Derived.Test.YtkfkpjngiffamaaGreatDoorGC08
import Derived.Test.YtkfkpjngiffamaaGreatDoorGC10
namespace Go.Proofs.YtkfkpjngiffamaaGreatDoor
open Go.RowKit
set_option linter.unusedVariables false
set_option linter.unusedSimpArgs false
namespace Aterm
open Effect (RdI nget nget_at nget_mem ret_bool ret_i64 lt_of_block heap_alloc_new ofA)
open Rt (box_new box_at below_then)
open Words (nameB exnB)

def bareB (h : Term.Hd) : Bool := decide (h.op = 0) && decide (h.n = 0) && decide (h.arg.size = 0) && decide (h.exn.size = 0)
theorem head_17 {h : Term.Hd} (hk : h.k = 17) (l : Nat) : headOk h l = (bareB h && decide (h.name.size = 0) && decide (0 ≤ h.pl) && decide (l = 1)) := by
 obtain ⟨k, op, pl, n, nm, ar, ex⟩ := h
 simp only at hk
 subst hk
 unfold headOk likeH likeK bareB Term.nodeB Term.opOk Term.nOk Term.nameF Term.argF Term.exnF Term.fitsB Term.kidsN
 simp only [Bool.and_assoc]
 rw [Bool.eq_iff_iff]
 simp
 constructor
 ·intro hh; simp_all; try omega
 ·intro hh; simp_all; try omega
theorem head_18 {h : Term.Hd} (hk : h.k = 18) (l : Nat) : headOk h l = (bareB h && nameB h.name && decide (0 ≤ h.pl) && decide (l = 0)) := by
 obtain ⟨k, op, pl, n, nm, ar, ex⟩ := h
 simp only at hk
 subst hk
 unfold headOk likeH likeK bareB Term.nodeB Term.opOk Term.nOk Term.nameF Term.argF Term.exnF Term.fitsB Term.kidsN
 simp only [Bool.and_assoc]
 rw [Bool.eq_iff_iff]
 simp
 constructor
 ·intro hh; simp_all; try omega
 ·intro hh; simp_all; try omega
theorem head_min {h : Term.Hd} (h17 : h.k ≠ 17) (h18 : h.k ≠ 18) {l m : Nat} (hm : m = min l 4) : Term.nodeB h m = headOk h l := by
 have hl : likeH h = h := by
  unfold likeH likeK
  rw [if_neg h17, if_neg h18]
 by_cases h4 : l ≤ 3
 ·have : m = l := by omega
  unfold headOk
  rw [hl, this]
 ·rw [head_many (by omega)]
  have := head_many (h := h) (n := m) (by omega)
  unfold headOk at this
  rwa [hl] at this
theorem zero_one : ∀ u ∈ zero8.toList, u.oneCell' = true := by
 intro u hu
 simp [zero8] at hu
 rcases hu with rfl | rfl | rfl | rfl | rfl | rfl | rfl | rfl <;> rfl
theorem zero_news {w : World} {N : Nat} {ty : TypeId} (hN : N = w.heap.size) : ∀ j u, zero8.toList[j]? = some u → (w.alloc (.cells zero8 ty)).cell? ((⟨N, 0, none⟩ : Addr).add j) = some u := by
 intro j u hu
 subst hN
 rw [Addr.add_lit, Nat.zero_add, World.cell?_alloc_mark]
 simpa using hu
theorem isEmpty_yes {s : ByteArray} (h : s.size = 0) : s.toList.isEmpty = true := by
 have : s.toList = [] := by rw [Lib.toList_data]; exact List.length_eq_zero_iff.1 h
 rw [this]; rfl
theorem isEmpty_no {s : ByteArray} (h : ¬ s.size = 0) : s.toList.isEmpty = false := by
 have : s.toList ≠ [] := by rw [Lib.toList_data]; exact fun e => h (by have := congrArg List.length e; simpa using this)
 simpa using this
structure HeadAt (w : World) (h : Hd) (v : V) (l : Nat) (j : Nat) (a : Option Addr) (c0 : Nat) (W : World) : Prop where
 below : Below w.heap.size w W
 box : W.heap[w.heap.size]? = some (.cells #[.int .u8 h.h.k, .int .u8 h.h.op, .int .i64 h.h.pl, .int .i64 h.h.n, .string h.h.name, .string h.h.arg, .string h.h.exn, .int .i64 h.rho, .slice v.ra h.rhos.length v.rc, .slice v.ea h.e.length v.ec, .int .u8 h.ty.h.k, .int .i64 h.ty.h.r, .slice v.tea h.ty.h.e.length v.tec, .slice v.tka h.ty.ks.length v.tkc, .int .u8 h.re.h.k, .int .i64 h.re.h.r, .slice v.sea h.re.h.e.length v.sec, .slice v.ska h.re.ks.length v.skc, .slice v.ka l v.kc] 31 (0, 0))
 out : W.heap[w.heap.size + 2]? = some (.cells #[.int .u8 h.h.k, .int .u8 h.h.op, .int .i64 h.h.pl, .int .i64 h.h.n, .string h.h.name, .string h.h.arg, .string h.h.exn, .slice a j c0] 89 (0, 0))
 row : ∃ xs, W.ownsRow (w.heap.size + 3) 89 8 (.slice a j c0) j xs
theorem head_step {w : World} {h : Hd} {v : V} {l j : Nat} {a : Option Addr} {c0 : Nat} {wr w3 : World} {O : Obj} {v3 : Value} {xs ys : List Value} (hA : HeadAt w h v l j a c0 wr) (hown : wr.ownsRow (w.heap.size + 3) 89 8 (.slice a j c0) j xs)
  (hown3 : w3.ownsRow (w.heap.size + 3) 89 8 v3 (j + 1) ys) (hg : (wr.alloc O).grownBy w3 (Value.slice a j c0).ownBlock) :
  (w3.cell? ⟨w.heap.size + 2, 7, none⟩ = some (.slice a j c0) ∧ w3.frozen? ⟨w.heap.size + 2, 7, none⟩ = false) ∧ ∃ a3 c3, v3 = .slice a3 (j + 1) c3 ∧ HeadAt w h v l (j + 1) a3 c3 (w3.setCell ⟨w.heap.size + 2, 7, none⟩ v3) := by
 have hge : ∀ g, (Value.slice a j c0).ownBlock = some g → w.heap.size + 3 ≤ g := fun g hgg => (hown.lt g hgg).1
 have hlo := lt_of_block hA.out
 have hstay : ∀ b, b < w.heap.size + 3 → w3.heap[b]? = wr.heap[b]? := fun b hb => by
  rw [hg.block b (by simp; omega) (fun e => by have := hge b e.symm; omega)]
  exact (box_new (w := wr) O).block b (by omega)
 have hout3 := (hstay (w.heap.size + 2) (by omega)).trans hA.out
 have hoth : ∀ b, b ≠ w.heap.size + 2 → (w3.setCell ⟨w.heap.size + 2, 7, none⟩ v3).heap[b]? = w3.heap[b]? := fun b hb => Below.heap_setCell _ _ _ _ hb
 obtain ⟨a3, c3, rfl, _, _⟩ := own_cap hown3
 have hb1 : Below w.heap.size w (wr.alloc O) := below_then hA.below (box_new _) hA.below.size
 refine ⟨⟨by simp [World.cell?, hout3], by simp [World.frozen?, hout3]⟩, a3, c3, rfl, (hb1.grown hg hb1.size (fun g hgg => by have := hge g hgg; omega)).setCell (p := ⟨w.heap.size + 2, 7, none⟩) (by show w.heap.size ≤ w.heap.size + 2; omega) _, ?_, ?_, ys, ownsRow_setCell_below hown3 (a := ⟨w.heap.size + 2, 7, none⟩) (by show w.heap.size + 2 < w.heap.size + 3; omega) _⟩
 ·exact (hoth _ (by omega)).trans ((hstay _ (by omega)).trans hA.box)
 ·simp [World.setCell, Array.getElem?_modify, hout3]
set_option maxRecDepth 100000 in
set_option maxHeartbeats 6400000 in
theorem head_walk (t : AT) (h : Hd) (v : V) (l : Nat) (w : World) (hT : AtIs w h v l t) :
  Calls Tryz.prog 34 #[.agg #[.int .u8 h.h.k, .int .u8 h.h.op, .int .i64 h.h.pl, .int .i64 h.h.n, .string h.h.name, .string h.h.arg, .string h.h.exn, .int .i64 h.rho, .slice v.ra h.rhos.length v.rc, .slice v.ea h.e.length v.ec, .int .u8 h.ty.h.k, .int .i64 h.ty.h.r, .slice v.tea h.ty.h.e.length v.tec, .slice v.tka h.ty.ks.length v.tkc, .int .u8 h.re.h.k, .int .i64 h.re.h.r, .slice v.sea h.re.h.e.length v.sec, .slice v.ska h.re.ks.length v.skc, .slice v.ka l v.kc]] w fun e w' => e = .returned (.bool (headOk h.h l)) ∧ Below w.heap.size w w' := by
 have hlc := (capA hT).1
 have hok := hT.ok.hd
 have hname := fun W => Words.refName_walk h.h.name W hok.name
 have HNAME := Lib.hid hname; have HOK := Lib.hid hok
 clear hname hok hT
 go_enter Tryz.func34, Tryz.ntmps34
 go_upto_region 1 with (fail)
 obtain ⟨W0, hW0⟩ : ∃ W0, W0 = w.alloc (.cells #[.int .u8 h.h.k, .int .u8 h.h.op, .int .i64 h.h.pl, .int .i64 h.h.n, .string h.h.name, .string h.h.arg, .string h.h.exn, .int .i64 h.rho, .slice v.ra h.rhos.length v.rc, .slice v.ea h.e.length v.ec, .int .u8 h.ty.h.k, .int .i64 h.ty.h.r, .slice v.tea h.ty.h.e.length v.tec, .slice v.tka h.ty.ks.length v.tkc, .int .u8 h.re.h.k, .int .i64 h.re.h.r, .slice v.sea h.re.h.e.length v.sec, .slice v.ska h.re.ks.length v.skc, .slice v.ka l v.kc] 31) := ⟨_, rfl⟩
 have hbk : W0.heap[w.heap.size]? = some (.cells #[.int .u8 h.h.k, .int .u8 h.h.op, .int .i64 h.h.pl, .int .i64 h.h.n, .string h.h.name, .string h.h.arg, .string h.h.exn, .int .i64 h.rho, .slice v.ra h.rhos.length v.rc, .slice v.ea h.e.length v.ec, .int .u8 h.ty.h.k, .int .i64 h.ty.h.r, .slice v.tea h.ty.h.e.length v.tec, .slice v.tka h.ty.ks.length v.tkc, .int .u8 h.re.h.k, .int .i64 h.re.h.r, .slice v.sea h.re.h.e.length v.sec, .slice v.ska h.re.ks.length v.skc, .slice v.ka l v.kc] 31 (0, 0)) := by rw [hW0]; exact heap_alloc_new _ _
 have hsz : W0.heap.size = w.heap.size + 1 := by rw [hW0]; simp
 have hb0 : Below w.heap.size w W0 := by rw [hW0]; exact box_new _
 rw [← hW0]
 clear hW0
 obtain ⟨b0, b1, b2, b3, b4, b5, b6, b7, b8, b9, b10, b11, b12, b13, b14, b15, b16, b17, b18⟩ := box_blk hbk
 have HB0 := Lib.hid hb0; have HBK := Lib.hid hbk; have HSZ := Lib.hid hsz
 clear hb0 hbk b7 b8 b9 b10 b11 b12 b13 b14 b15 b16 b17
 go_upto_region 2 with (fail)
 have hn1 := heap_alloc_new W0 (.cells #[.int .u8 h.h.k, .int .u8 h.h.op, .int .i64 h.h.pl, .int .i64 h.h.n, .string h.h.name, .string h.h.arg, .string h.h.exn] 23)
 have hb1 := box_new (w := W0) (.cells #[.int .u8 h.h.k, .int .u8 h.h.op, .int .i64 h.h.pl, .int .i64 h.h.n, .string h.h.name, .string h.h.arg, .string h.h.exn] 23)
 have hs1 : (W0.alloc (.cells #[.int .u8 h.h.k, .int .u8 h.h.op, .int .i64 h.h.pl, .int .i64 h.h.n, .string h.h.name, .string h.h.arg, .string h.h.exn] 23)).heap.size = w.heap.size + 2 := by simp [hsz]
 generalize hW1 : W0.alloc (.cells #[.int .u8 h.h.k, .int .u8 h.h.op, .int .i64 h.h.pl, .int .i64 h.h.n, .string h.h.name, .string h.h.arg, .string h.h.exn] 23) = W1 at hn1 hb1 hs1 ⊢
 clear hW1
 rw [hsz] at hn1
 try rw [hsz]
 have c0 : W1.cell? ⟨w.heap.size + 1, 0, none⟩ = some (.int .u8 h.h.k) := by simp [World.cell?, hn1]
 have c1 : W1.cell? ⟨w.heap.size + 1, 1, none⟩ = some (.int .u8 h.h.op) := by simp [World.cell?, hn1]
 have c2 : W1.cell? ⟨w.heap.size + 1, 2, none⟩ = some (.int .i64 h.h.pl) := by simp [World.cell?, hn1]
 have c3 : W1.cell? ⟨w.heap.size + 1, 3, none⟩ = some (.int .i64 h.h.n) := by simp [World.cell?, hn1]
 have c4 : W1.cell? ⟨w.heap.size + 1, 4, none⟩ = some (.string h.h.name) := by simp [World.cell?, hn1]
 have c5 : W1.cell? ⟨w.heap.size + 1, 5, none⟩ = some (.string h.h.arg) := by simp [World.cell?, hn1]
 have c6 : W1.cell? ⟨w.heap.size + 1, 6, none⟩ = some (.string h.h.exn) := by simp [World.cell?, hn1]
 have hbk1 := (hb1.block _ (lt_of_block HBK.out)).trans HBK.out
 have HBK1 := Lib.hid hbk1; have HB1 := Lib.hid (below_then HB0.out hb1 HB0.out.size); have HS1 := Lib.hid hs1
 have HNX := Lib.hid hn1
 clear b0 b1 b2 b3 b4 b5 b6 b18 hn1 hb1 hs1 hsz
 obtain ⟨b0, b1, b2, b3, b4, b5, b6, b7, b8, b9, b10, b11, b12, b13, b14, b15, b16, b17, b18⟩ := box_blk hbk1
 clear hbk1 b1 b2 b3 b4 b5 b6 b7 b8 b9 b10 b11 b12 b13 b14 b15 b16 b17
 have hbare : ((h.h.op == 0) = false ∧ bareB h.h = false) ∨ ((h.h.op == 0) = true ∧ (h.h.n == 0) = false ∧ bareB h.h = false) ∨ ((h.h.op == 0) = true ∧ (h.h.n == 0) = true ∧ h.h.arg.toList.isEmpty = false ∧ bareB h.h = false) ∨ ((h.h.op == 0) = true ∧ (h.h.n == 0) = true ∧ h.h.arg.toList.isEmpty = true ∧ h.h.exn.toList.isEmpty = false ∧ bareB h.h = false) ∨ ((h.h.op == 0) = true ∧ (h.h.n == 0) = true ∧ h.h.arg.toList.isEmpty = true ∧ h.h.exn.toList.isEmpty = true ∧ bareB h.h = true) := by
  unfold bareB
  by_cases e1 : h.h.op = 0
  ·by_cases e2 : h.h.n = 0
   ·by_cases e3 : h.h.arg.size = 0
    ·by_cases e4 : h.h.exn.size = 0
     ·exact .inr (.inr (.inr (.inr ⟨by simpa using e1, by simpa using e2, isEmpty_yes e3, isEmpty_yes e4, by rw [e1, e2, e3, e4]; rfl⟩)))
     ·exact .inr (.inr (.inr (.inl ⟨by simpa using e1, by simpa using e2, isEmpty_yes e3, isEmpty_no e4, by rw [decide_eq_false e4]; simp⟩)))
    ·exact .inr (.inr (.inl ⟨by simpa using e1, by simpa using e2, isEmpty_no e3, by rw [decide_eq_false e3]; simp⟩))
   ·exact .inr (.inl ⟨by simpa using e1, by simpa using e2, by rw [decide_eq_false e2]; simp⟩)
  ·exact .inl ⟨by simpa using e1, by rw [decide_eq_false e1]; simp⟩
 go_cut [4] (fun s4 wx => wx = W1 ∧ s4 = .bool (bareB h.h))
 case first =>
  clear c0 c2 c4 b0 b18
  rcases hbare with ⟨f1, hb⟩ | ⟨f1, f2, hb⟩ | ⟨f1, f2, f3, hb⟩ | ⟨f1, f2, f3, f4, hb⟩ | ⟨f1, f2, f3, f4, hb⟩
  all_goals
   have HBE := Lib.hid hb
   clear hb
   go_wp2_with (fail)
   go_meet
   exact ⟨rfl, by rw [HBE.out]⟩
 case rest =>
  obtain ⟨rfl, rfl⟩ := hcut
  clear hbare c1 c3 c5 c6
  by_cases h17 : h.h.k = 17
  ·have hr := head_17 h17 l
   have e17 : (h.h.k == 17) = true := by simpa using h17
   have HR := Lib.hid hr
   clear hr h17
   have hl1 : decide (l = 1) = ((l : Int) == 1) := by
    by_cases e : l = 1
    ·rw [e]; rfl
    ·rw [decide_eq_false e]; symm; rw [beq_eq_false_iff_ne]; omega
   have hnm : decide (h.h.name.size = 0) = h.h.name.toList.isEmpty := by
    by_cases e : h.h.name.size = 0
    ·rw [isEmpty_yes e, decide_eq_true e]
    ·rw [isEmpty_no e, decide_eq_false e]
   have HL1 := Lib.hid hl1; have HNM := Lib.hid hnm
   clear hl1 hnm
   cases hb : bareB h.h
   ·have HR2 := Lib.hid (show headOk h.h l = false by rw [HR.out, hb]; rfl)
    clear hb
    go_wp2_with (fail)
    go_ret
    exact ⟨ret_bool HR2.out.symm, HB1.out⟩
   cases hn : h.h.name.toList.isEmpty
   ·have HR2 := Lib.hid (show headOk h.h l = false by rw [HR.out, hb, HNM.out, hn]; rfl)
    clear hb
    go_wp2_with (fail)
    go_ret
    exact ⟨ret_bool HR2.out.symm, HB1.out⟩
   by_cases hp : 0 ≤ h.h.pl
   ·have hd : decide (0 ≤ h.h.pl) = true := decide_eq_true hp
    have HR2 := Lib.hid (show headOk h.h l = ((l : Int) == 1) by rw [HR.out, hb, HNM.out, hn, hd, HL1.out]; rfl)
    clear hb hp
    go_wp2_with (fail)
    go_ret
    exact ⟨ret_bool HR2.out.symm, HB1.out⟩
   ·have hd : decide (0 ≤ h.h.pl) = false := decide_eq_false hp
    have HR2 := Lib.hid (show headOk h.h l = false by rw [HR.out, hb, HNM.out, hn, hd]; rfl)
    clear hb hp
    go_wp2_with (fail)
    go_ret
    exact ⟨ret_bool HR2.out.symm, HB1.out⟩
  have e17 : (h.h.k == 17) = false := by simpa using h17
  by_cases h18 : h.h.k = 18
  ·have hr := head_18 h18 l
   have e18 : (h.h.k == 18) = true := by simpa using h18
   have hl0 : decide (l = 0) = ((l : Int) == 0) := by
    by_cases e : l = 0
    ·rw [e]; rfl
    ·rw [decide_eq_false e]; symm; rw [beq_eq_false_iff_ne]; omega
   have HR := Lib.hid hr; have HL0 := Lib.hid hl0
   clear hr h17 h18 hl0
   cases hb : bareB h.h
   ·have HR2 := Lib.hid (show headOk h.h l = false by rw [HR.out, hb]; rfl)
    clear hb
    go_wp2_with (fail)
    go_ret
    exact ⟨ret_bool HR2.out.symm, HB1.out⟩
   have HBB := Lib.hid hb
   clear hb
   go_wp2_with (fail)
   refine (HNAME.out wc).mono ?_
   rintro e w2 ⟨rfl, hb2⟩
   have d2 : w2.cell? ⟨w.heap.size + 1, 2, none⟩ = some (.int .i64 h.h.pl) := (hb2.cell (p := ⟨w.heap.size + 1, 2, none⟩) (World.block_lt_of_cell? _ _ c2)).trans c2
   have d18 : w2.cell? ⟨w.heap.size, 18, none⟩ = some (.slice v.ka l v.kc) := (hb2.cell (p := ⟨w.heap.size, 18, none⟩) (World.block_lt_of_cell? _ _ b18)).trans b18
   have HB2 := Lib.hid (below_then HB1.out hb2 HB1.out.size)
   clear hb2 c0 c2 c4 b0 b18
   cases hn : nameB h.h.name
   ·have HR2 := Lib.hid (show headOk h.h l = false by rw [HR.out, HBB.out, hn]; rfl)
    go_wp2_with (fail)
    go_ret
    exact ⟨ret_bool HR2.out.symm, HB2.out⟩
   by_cases hp : 0 ≤ h.h.pl
   ·have hd : decide (0 ≤ h.h.pl) = true := decide_eq_true hp
    have HR2 := Lib.hid (show headOk h.h l = ((l : Int) == 0) by rw [HR.out, HBB.out, hn, hd, HL0.out]; rfl)
    clear hp
    go_wp2_with (fail)
    go_ret
    exact ⟨ret_bool HR2.out.symm, HB2.out⟩
   ·have hd : decide (0 ≤ h.h.pl) = false := decide_eq_false hp
    have HR2 := Lib.hid (show headOk h.h l = false by rw [HR.out, HBB.out, hn, hd]; rfl)
    clear hp
    go_wp2_with (fail)
    go_ret
    exact ⟨ret_bool HR2.out.symm, HB2.out⟩
  have e18 : (h.h.k == 18) = false := by simpa using h18
  have HMIN := Lib.hid (fun m (hm : m = min l 4) => head_min h17 h18 hm)
  have c1 : wc.cell? ⟨w.heap.size + 1, 1, none⟩ = some (.int .u8 h.h.op) := by simp [World.cell?, HNX.out]
  have c3 : wc.cell? ⟨w.heap.size + 1, 3, none⟩ = some (.int .i64 h.h.n) := by simp [World.cell?, HNX.out]
  have c5 : wc.cell? ⟨w.heap.size + 1, 5, none⟩ = some (.string h.h.arg) := by simp [World.cell?, HNX.out]
  have c6 : wc.cell? ⟨w.heap.size + 1, 6, none⟩ = some (.string h.h.exn) := by simp [World.cell?, HNX.out]
  clear h17 h18
  go_upto_region 8 with (fail)
  have hn2 := heap_alloc_new wc (.cells #[.int .u8 h.h.k, .int .u8 h.h.op, .int .i64 h.h.pl, .int .i64 h.h.n, .string h.h.name, .string h.h.arg, .string h.h.exn, .slice none 0 0] 89)
  have hb2 := box_new (w := wc) (.cells #[.int .u8 h.h.k, .int .u8 h.h.op, .int .i64 h.h.pl, .int .i64 h.h.n, .string h.h.name, .string h.h.arg, .string h.h.exn, .slice none 0 0] 89)
  rw [HS1.out] at hn2
  have hA0 : HeadAt w h v l 0 none 0 (wc.alloc (.cells #[.int .u8 h.h.k, .int .u8 h.h.op, .int .i64 h.h.pl, .int .i64 h.h.n, .string h.h.name, .string h.h.arg, .string h.h.exn, .slice none 0 0] 89)) := ⟨below_then HB1.out hb2 HB1.out.size, (hb2.block _ (lt_of_block HBK1.out)).trans HBK1.out, hn2, ⟨[], World.ownsRow_nil _ _ _ _⟩⟩
  have HA0 := Lib.hid hA0
  rw [HS1.out]
  generalize wc.alloc (.cells #[.int .u8 h.h.k, .int .u8 h.h.op, .int .i64 h.h.pl, .int .i64 h.h.n, .string h.h.name, .string h.h.arg, .string h.h.exn, .slice none 0 0] 89) = W3 at HA0 ⊢
  clear hn2 hb2 hA0 c0 c1 c2 c3 c4 c5 c6 b0 b18
  obtain ⟨i0, hi0, hz0, hz1, hz2⟩ := info_parts Term.infoTerm
  have HI0 := Lib.hid hi0; have HZ0 := Lib.hid hz0; have HZ1 := Lib.hid hz1; have HZ2 := Lib.hid hz2
  clear hi0 hz0 hz1 hz2
  have hnode := fun (m : Nat) (a : Option Addr) (c : Nat) (W : World) (hm : m ≤ 4) => Term.refNode_walk h.h a m c W HOK.out (by unfold maxLen; omega)
  have HNODE := Lib.hid hnode
  clear hnode
  go_wp2_with (fail)
  go_loopw [6] (fun i wr => ∃ (j : Nat) (a : Option Addr) (c0 : Nat), j ≤ l ∧ j ≤ 4 ∧ i = .int .i64 j ∧ Hid (HeadAt w h v l j a c0 wr)) (fun i _ => 4 - (intOf i).toNat)
  case atStart => exact ⟨0, none, 0, Nat.zero_le _, by omega, rfl, HA0⟩
  case round =>
   obtain ⟨j, a, c0, hjl, hj4, rfl, HA⟩ := hrel
   obtain ⟨b0, b1, b2, b3, b4, b5, b6, b7, b8, b9, b10, b11, b12, b13, b14, b15, b16, b17, b18⟩ := box_blk HA.out.box
   obtain ⟨⟨o0, o1, o2, o3, o4, o5, o6, o7⟩, f0, f1, f2, f3, f4, f5, f6, f7⟩ := cells8t HA.out.out
   clear b0 b1 b2 b3 b4 b5 b6 b7 b8 b9 b10 b11 b12 b13 b14 b15 b16 b17 f0 f1 f2 f3 f4 f5 f6
   by_cases hgo : j < l ∧ j < 4
   ·have g1 : decide ((j : Int) < (l : Int)) = true := decide_eq_true (by omega)
    have g2 : decide ((j : Int) < 4) = true := decide_eq_true (by omega)
    have gj : (j : Int) < 4 := by omega
    have gl : j < l := hgo.1
    obtain ⟨xs, hown⟩ := HA.out.row
    have hlo := lt_of_block HA.out.out
    have HOWN := Lib.hid hown; have HLO := Lib.hid hlo
    clear hown hlo o0 o1 o2 o3 o4 o5 o6
    go_wp2_with (at_builtin; refine wpList_append_own _ rfl (.tmp 83) (.tmp 85) 87 rfl (w.heap.size + 3) 89 i0 _ 8 96 Tryz.underlying87 HI0.out HZ0.out HZ1.out HZ2.out rfl (by omega) (.slice a j c0) j xs rfl (own_below HOWN.out (box_new _)) ⟨wr.heap.size, 0, none⟩ 1 1 zero8.toList rfl rfl (zero_news rfl) zero_one (by unfold maxLen; omega) (by omega) (by have := HLO.out; simp; omega) ?_; intro v3 w3 hown3 hgrow3 hnil3; obtain ⟨⟨s0, s1⟩, a3, c3, rfl, hh⟩ := head_step HA.out HOWN.out hown3 hgrow3; have HH := Lib.hid hh; clear hown3 hgrow3 hnil3 hh)
    go_roundw
    ·exact ⟨j + 1, a3, c3, gl, by omega, by simp, HH⟩
    ·simp [intOf]
     omega
   ·have hj : j = min l 4 := by omega
    have hm4 : j ≤ 4 := hj4
    have HM := Lib.hid (HMIN.out j hj)
    by_cases gl : j < l
    ·have g1 : decide ((j : Int) < (l : Int)) = true := decide_eq_true (by omega)
     have g2 : decide ((j : Int) < 4) = false := decide_eq_false (by omega)
     go_wp2_with (fail)
     refine (HNODE.out _ a c0 wr (by omega)).mono ?_
     rintro e w2 ⟨rfl, hb2⟩
     have HB2 := Lib.hid (below_then HA.out.below hb2 HA.out.below.size)
     rw [HMIN.out _ rfl]
     go_wp2_with (fail)
     go_ret
     exact ⟨rfl, HB2.out⟩
    ·have g1 : decide ((j : Int) < (l : Int)) = false := decide_eq_false (by omega)
     go_wp2_with (fail)
     refine (HNODE.out _ a c0 wr (by omega)).mono ?_
     rintro e w2 ⟨rfl, hb2⟩
     have HB2 := Lib.hid (below_then HA.out.below hb2 HA.out.below.size)
     rw [HMIN.out _ rfl]
     go_wp2_with (fail)
     go_ret
     exact ⟨rfl, HB2.out⟩
end Aterm
end Go.Proofs.YtkfkpjngiffamaaGreatDoor
namespace Go.Proofs.YtkfkpjngiffamaaGreatDoor
open Go.RowKit
set_option linter.unusedVariables false
set_option linter.unusedSimpArgs false
namespace Rt
open Effect (At AtOk AtsAt Rd ofA ret_i64 ret_bool)

def MayOf (m : Nat) : Prop := ∀ (t : RT) (h : Hd) (pe : Option Addr) (ne ce : Nat) (p : Option Addr) (l c : Nat) (w : World), wt t ≤ m → RtIs w h pe ne ce p l c t → allT (effB 100000) t = true →
  Calls Tryz.prog 38 #[.agg #[.int .u8 h.k, .int .i64 h.r, .slice pe ne ce, .slice p l c]] w fun e w' => e = .returned (.bool (mayT t)) ∧ Below w.heap.size w w'
theorem may_false {t : RT} (h : ¬ ((t.ks.length : Int) = kidsN t.h.k ∧ 0 ≤ t.h.r ∧ (t.h.k = 1 → t.h.r ≤ 0) ∧ (t.h.k ≠ 4 → t.h.e = []) ∧ t.h.e = ofA t.h.e)) : mayT t = false := by
 rw [mayT_eq]; unfold nodeB; rw [decide_eq_false h]; rfl
theorem may_rest {t : RT} (h : (t.ks.length : Int) = kidsN t.h.k ∧ 0 ≤ t.h.r ∧ (t.h.k = 1 → t.h.r ≤ 0) ∧ (t.h.k ≠ 4 → t.h.e = []) ∧ t.h.e = ofA t.h.e) : mayT t = mayK t.ks := by
 rw [mayT_eq]; unfold nodeB; rw [decide_eq_true h]; rfl
set_option maxRecDepth 10000 in
set_option maxHeartbeats 12800000 in
theorem refMay_1 (m : Nat) (ih : MayOf m) (t : RT) (v : Int) (e : List At) (pe : Option Addr) (ne ce : Nat) (p : Option Addr) (l c : Nat) (w : World) (hm : wt t ≤ m + 1) (hT : RtIs w ⟨1, v, e⟩ pe ne ce p l c t) (hef : allT (effB 100000) t = true) :
  Calls Tryz.prog 38 #[.agg #[.int .u8 1, .int .i64 v, .slice pe ne ce, .slice p l c]] w fun e w' => e = .returned (.bool (mayT t)) ∧ Below w.heap.size w w' := by
 have hnc := (eff_iff.1 (by have := hef; rw [allT_eq, Bool.and_eq_true, hT.head] at this; exact this.1)).1
 have hkid := by have := hef; rw [allT_eq, Bool.and_eq_true] at this; exact this.2
 have hmay := fun O : Obj => Effect.refMay_walk (c := ce) (hT.eff.below (box_new O)).rd (by rw [← hT.elen]; exact hnc)
 have hlen := hT.elen
 obtain ⟨hlc, hncc⟩ := cap63 hT
 simp only at hnc hmay hlen
 have HMAY := Lib.hid hmay
 clear hmay hnc
 by_cases hl : l ≠ 0
 ·have hr : mayT t = false := may_false fun h => by
   rw [hT.head, hT.len] at h; unfold kidsN at h; have := h.1; simp at this; omega
  have b0 : ((l : Int) == 0) = false := by rw [beq_eq_false_iff_ne]; omega
  have b1 : ((l : Int) != 0) = true := by rw [bne, b0]; rfl
  have HR := Lib.hid hr
  clear hr hT ih hef hm HMAY hl hkid hlen
  go_enter Tryz.func38, Tryz.ntmps38
  go_wp2_with (fail)
  go_ret
  exact ⟨ret_bool HR.out.symm, box_new _⟩
 have hl' : l = 0 := Classical.not_not.1 hl
 clear hl
 subst hl'
 by_cases hv : v < 0
 ·have hr : mayT t = false := may_false fun h => by
   rw [hT.head, hT.len] at h; unfold kidsN at h; have := h.2.1; simp at this; omega
  have b0 : decide (v < 0) = true := decide_eq_true hv
  have HR := Lib.hid hr
  clear hr hT ih hef hm HMAY hkid hlen
  go_enter Tryz.func38, Tryz.ntmps38
  go_wp2_with (fail)
  go_ret
  exact ⟨ret_bool HR.out.symm, box_new _⟩
 by_cases hv0 : 0 < v
 ·have hr : mayT t = false := may_false fun h => by
   rw [hT.head, hT.len] at h; unfold kidsN at h; have := h.2.2.1 rfl; simp at this; omega
  have b0 : decide (v < 0) = false := decide_eq_false hv
  have b1 : decide (0 < v) = true := decide_eq_true hv0
  have HR := Lib.hid hr
  clear hr hT ih hef hm HMAY hkid hlen
  go_enter Tryz.func38, Tryz.ntmps38
  go_wp2_with (fail)
  go_ret
  exact ⟨ret_bool HR.out.symm, box_new _⟩
 have hvv : v = 0 := by omega
 clear hv hv0
 subst hvv
 by_cases hne : 0 < ne
 ·have hr : mayT t = false := may_false fun h => by
   rw [hT.head, hT.len] at h; unfold kidsN at h; have := h.2.2.2.1 (by simp); simp only at this; rw [this] at hlen; simp at hlen; omega
  have b3 : decide (0 < (ne : Int)) = true := decide_eq_true (by omega)
  have HR := Lib.hid hr
  clear hr hT ih hef hm HMAY hkid hlen
  go_enter Tryz.func38, Tryz.ntmps38
  go_wp2_with (fail)
  go_ret
  exact ⟨ret_bool HR.out.symm, box_new _⟩
 obtain rfl : ne = 0 := by omega
 obtain rfl : e = [] := List.length_eq_zero_iff.1 hlen
 have hmm : decide (([] : List At) = ofA []) = true := decide_eq_true of_nil.symm
 have HMM := Lib.hid hmm
 clear hmm hne
 have hr : mayT t = mayK t.ks := may_rest (by rw [hT.head, hT.len]; unfold kidsN; exact ⟨by simp, by simp, fun _ => by simp, fun _ => rfl, of_nil.symm⟩)
 have HR := Lib.hid hr; have HT := Lib.hid hT; have HM := Lib.hid hm; have IH := Lib.hid ih; have HKI := Lib.hid hkid
 clear hr hT hm ih hkid hef hlen
 have hbox : ∀ O : Obj, Below w.heap.size w (w.alloc O) := fun O => box_new O
 have HBOX := Lib.hid hbox
 clear hbox
 go_enter Tryz.func38, Tryz.ntmps38
 go_wp2_with (fail)
 refine (HMAY.out _).mono ?_
 rintro e1 w1 ⟨rfl, hb1⟩
 obtain ⟨c0, c1, c2, c3⟩ := box4 (N := w.heap.size) rfl hb1
 have HB1 := Lib.hid hb1
 clear hb1
 rw [HMM.out]
 go_wp2_with (fail)
 go_loopw [4, 66] (fun _ i wr => ∃ (j : Nat), j ≤ 0 ∧ i = .int .i64 j ∧ Hid (mayK t.ks = mayK (t.ks.drop j)) ∧
  Hid (Below (w.alloc (.cells #[.int .u8 1, .int .i64 0, .slice pe 0 ce, .slice p 0 c] 28)).heap.size (w.alloc (.cells #[.int .u8 1, .int .i64 0, .slice pe 0 ce, .slice p 0 c] 28)) wr)) (fun _ i _ => 0 - (intOf i).toNat)
 case atStart => exact ⟨0, Nat.zero_le _, rfl, Lib.hid (by rw [List.drop_zero]), HB1⟩
 case round =>
  obtain ⟨j, hj, rfl, HLK, HW⟩ := hrel
  obtain ⟨b0, b1, b2, b3⟩ := box4 (N := w.heap.size) rfl HW.out
  have HWW := Lib.hid ((HBOX.out _).trans (HW.out.mono (HBOX.out _).size))
  by_cases hlt : j < 0
  ·exact absurd hlt (Nat.not_lt_zero _)
  ·obtain rfl : j = 0 := by omega
   have hr := HLK.out
   rw [List.drop_eq_nil_of_le (by rw [HT.out.len]; exact Nat.le_refl _), mayK_nil] at hr
   have HR2 := Lib.hid hr; clear hr
   go_wp2_with (fail)
   go_ret
   exact ⟨ret_bool (by rw [HR.out, HR2.out]), HWW.out⟩
set_option maxRecDepth 10000 in
set_option maxHeartbeats 12800000 in
theorem refMay_2 (m : Nat) (ih : MayOf m) (t : RT) (v : Int) (e : List At) (pe : Option Addr) (ne ce : Nat) (p : Option Addr) (l c : Nat) (w : World) (hm : wt t ≤ m + 1) (hT : RtIs w ⟨2, v, e⟩ pe ne ce p l c t) (hef : allT (effB 100000) t = true) :
  Calls Tryz.prog 38 #[.agg #[.int .u8 2, .int .i64 v, .slice pe ne ce, .slice p l c]] w fun e w' => e = .returned (.bool (mayT t)) ∧ Below w.heap.size w w' := by
 have hnc := (eff_iff.1 (by have := hef; rw [allT_eq, Bool.and_eq_true, hT.head] at this; exact this.1)).1
 have hkid := by have := hef; rw [allT_eq, Bool.and_eq_true] at this; exact this.2
 have hmay := fun O : Obj => Effect.refMay_walk (c := ce) (hT.eff.below (box_new O)).rd (by rw [← hT.elen]; exact hnc)
 have hlen := hT.elen
 obtain ⟨hlc, hncc⟩ := cap63 hT
 simp only at hnc hmay hlen
 have HMAY := Lib.hid hmay
 clear hmay hnc
 by_cases hl : l ≠ 2
 ·have hr : mayT t = false := may_false fun h => by
   rw [hT.head, hT.len] at h; unfold kidsN at h; have := h.1; simp at this; omega
  have b0 : ((l : Int) == 2) = false := by rw [beq_eq_false_iff_ne]; omega
  have b1 : ((l : Int) != 2) = true := by rw [bne, b0]; rfl
  have HR := Lib.hid hr
  clear hr hT ih hef hm HMAY hl hkid hlen
  go_enter Tryz.func38, Tryz.ntmps38
  go_wp2_with (fail)
  go_ret
  exact ⟨ret_bool HR.out.symm, box_new _⟩
 have hl' : l = 2 := Classical.not_not.1 hl
 clear hl
 subst hl'
 by_cases hv : v < 0
 ·have hr : mayT t = false := may_false fun h => by
   rw [hT.head, hT.len] at h; unfold kidsN at h; have := h.2.1; simp at this; omega
  have b0 : decide (v < 0) = true := decide_eq_true hv
  have HR := Lib.hid hr
  clear hr hT ih hef hm HMAY hkid hlen
  go_enter Tryz.func38, Tryz.ntmps38
  go_wp2_with (fail)
  go_ret
  exact ⟨ret_bool HR.out.symm, box_new _⟩
 have b9 : decide (v < 0) = false := decide_eq_false hv
 by_cases hne : 0 < ne
 ·have hr : mayT t = false := may_false fun h => by
   rw [hT.head, hT.len] at h; unfold kidsN at h; have := h.2.2.2.1 (by simp); simp only at this; rw [this] at hlen; simp at hlen; omega
  have b3 : decide (0 < (ne : Int)) = true := decide_eq_true (by omega)
  have HR := Lib.hid hr
  clear hr hT ih hef hm HMAY hkid hlen
  go_enter Tryz.func38, Tryz.ntmps38
  go_wp2_with (fail)
  go_ret
  exact ⟨ret_bool HR.out.symm, box_new _⟩
 obtain rfl : ne = 0 := by omega
 obtain rfl : e = [] := List.length_eq_zero_iff.1 hlen
 have hmm : decide (([] : List At) = ofA []) = true := decide_eq_true of_nil.symm
 have HMM := Lib.hid hmm
 clear hmm hne
 have hr : mayT t = mayK t.ks := may_rest (by rw [hT.head, hT.len]; unfold kidsN; exact ⟨by simp, by simp; omega, fun e => absurd e (by simp), fun _ => rfl, of_nil.symm⟩)
 have HR := Lib.hid hr; have HT := Lib.hid hT; have HM := Lib.hid hm; have IH := Lib.hid ih; have HKI := Lib.hid hkid
 clear hr hT hm ih hkid hef hlen
 have hbox : ∀ O : Obj, Below w.heap.size w (w.alloc O) := fun O => box_new O
 have HBOX := Lib.hid hbox
 clear hbox
 go_enter Tryz.func38, Tryz.ntmps38
 go_wp2_with (fail)
 refine (HMAY.out _).mono ?_
 rintro e1 w1 ⟨rfl, hb1⟩
 obtain ⟨c0, c1, c2, c3⟩ := box4 (N := w.heap.size) rfl hb1
 have HB1 := Lib.hid hb1
 clear hb1
 rw [HMM.out]
 go_wp2_with (fail)
 go_loopw [4, 66] (fun _ i wr => ∃ (j : Nat), j ≤ 2 ∧ i = .int .i64 j ∧ Hid (mayK t.ks = mayK (t.ks.drop j)) ∧
  Hid (Below (w.alloc (.cells #[.int .u8 2, .int .i64 v, .slice pe 0 ce, .slice p 2 c] 28)).heap.size (w.alloc (.cells #[.int .u8 2, .int .i64 v, .slice pe 0 ce, .slice p 2 c] 28)) wr)) (fun _ i _ => 2 - (intOf i).toNat)
 case atStart => exact ⟨0, Nat.zero_le _, rfl, Lib.hid (by rw [List.drop_zero]), HB1⟩
 case round =>
  obtain ⟨j, hj, rfl, HLK, HW⟩ := hrel
  obtain ⟨b0, b1, b2, b3⟩ := box4 (N := w.heap.size) rfl HW.out
  have HWW := Lib.hid ((HBOX.out _).trans (HW.out.mono (HBOX.out _).size))
  by_cases hlt : j < 2
  ·have hjk : j < t.ks.length := by rw [HT.out.len]; exact hlt
   have hst := HLK.out
   rw [mayK_step _ _ hjk] at hst
   obtain ⟨b, o, q, c', qe, ce', rfl, hkid, d0, d1, d2, d3⟩ := (HT.out.kids.stay HWW.out).get j hjk
   have hwk := wts_get hjk
   have hwt := wt_ks t
   have hek := allK_get _ hjk HKI.out
   have HST := Lib.hid hst; have HK := Lib.hid hkid
   have HWK := Lib.hid hwk; have HWT := Lib.hid hwt; have HEK := Lib.hid hek
   clear hst hkid hwk hwt hjk hek c0 c1 c2 c3
   go_wp2_with (fail)
   refine (IH.out (tget t.ks j) _ qe _ ce' q _ c' _ (by have := HM.out; have := HWK.out; have := HWT.out; omega) HK.out HEK.out).mono ?_
   rintro e2 w2 ⟨rfl, hb2⟩
   have HW2 := Lib.hid (HW.out.trans (hb2.mono HW.out.size))
   have HWW2 := Lib.hid (HWW.out.trans (hb2.mono HWW.out.size))
   clear hb2 b0 b1 b2 b3 d0 d1 d2 d3
   cases hX : mayT (tget t.ks j)
   ·have hs := HST.out
    rw [hX, Bool.false_and] at hs
    have HS := Lib.hid hs
    clear hs hX
    go_wp2
    go_ret
    exact ⟨ret_bool (by rw [HR.out, HS.out]), HWW2.out⟩
   ·have hs := HST.out
    rw [hX, Bool.true_and] at hs
    have HS := Lib.hid hs
    clear hs hX
    go_wp2
    go_roundw
    case rel => exact ⟨j + 1, by omega, by go_num, HS, HW2⟩
    case measure => first | (simp [intOf]; done) | (simp [intOf]; omega)
  ·obtain rfl : j = 2 := by omega
   have hr := HLK.out
   rw [List.drop_eq_nil_of_le (by rw [HT.out.len]; exact Nat.le_refl _), mayK_nil] at hr
   have HR2 := Lib.hid hr; clear hr
   go_wp2_with (fail)
   go_ret
   exact ⟨ret_bool (by rw [HR.out, HR2.out]), HWW.out⟩
set_option maxRecDepth 10000 in
set_option maxHeartbeats 12800000 in
theorem refMay_3 (m : Nat) (ih : MayOf m) (t : RT) (v : Int) (e : List At) (pe : Option Addr) (ne ce : Nat) (p : Option Addr) (l c : Nat) (w : World) (hm : wt t ≤ m + 1) (hT : RtIs w ⟨3, v, e⟩ pe ne ce p l c t) (hef : allT (effB 100000) t = true) :
  Calls Tryz.prog 38 #[.agg #[.int .u8 3, .int .i64 v, .slice pe ne ce, .slice p l c]] w fun e w' => e = .returned (.bool (mayT t)) ∧ Below w.heap.size w w' := by
 have hnc := (eff_iff.1 (by have := hef; rw [allT_eq, Bool.and_eq_true, hT.head] at this; exact this.1)).1
 have hkid := by have := hef; rw [allT_eq, Bool.and_eq_true] at this; exact this.2
 have hmay := fun O : Obj => Effect.refMay_walk (c := ce) (hT.eff.below (box_new O)).rd (by rw [← hT.elen]; exact hnc)
 have hlen := hT.elen
 obtain ⟨hlc, hncc⟩ := cap63 hT
 simp only at hnc hmay hlen
 have HMAY := Lib.hid hmay
 clear hmay hnc
 by_cases hl : l ≠ 1
 ·have hr : mayT t = false := may_false fun h => by
   rw [hT.head, hT.len] at h; unfold kidsN at h; have := h.1; simp at this; omega
  have b0 : ((l : Int) == 1) = false := by rw [beq_eq_false_iff_ne]; omega
  have b1 : ((l : Int) != 1) = true := by rw [bne, b0]; rfl
  have HR := Lib.hid hr
  clear hr hT ih hef hm HMAY hl hkid hlen
  go_enter Tryz.func38, Tryz.ntmps38
  go_wp2_with (fail)
  go_ret
  exact ⟨ret_bool HR.out.symm, box_new _⟩
 have hl' : l = 1 := Classical.not_not.1 hl
 clear hl
 subst hl'
 by_cases hv : v < 0
 ·have hr : mayT t = false := may_false fun h => by
   rw [hT.head, hT.len] at h; unfold kidsN at h; have := h.2.1; simp at this; omega
  have b0 : decide (v < 0) = true := decide_eq_true hv
  have HR := Lib.hid hr
  clear hr hT ih hef hm HMAY hkid hlen
  go_enter Tryz.func38, Tryz.ntmps38
  go_wp2_with (fail)
  go_ret
  exact ⟨ret_bool HR.out.symm, box_new _⟩
 have b9 : decide (v < 0) = false := decide_eq_false hv
 by_cases hne : 0 < ne
 ·have hr : mayT t = false := may_false fun h => by
   rw [hT.head, hT.len] at h; unfold kidsN at h; have := h.2.2.2.1 (by simp); simp only at this; rw [this] at hlen; simp at hlen; omega
  have b3 : decide (0 < (ne : Int)) = true := decide_eq_true (by omega)
  have HR := Lib.hid hr
  clear hr hT ih hef hm HMAY hkid hlen
  go_enter Tryz.func38, Tryz.ntmps38
  go_wp2_with (fail)
  go_ret
  exact ⟨ret_bool HR.out.symm, box_new _⟩
 obtain rfl : ne = 0 := by omega
 obtain rfl : e = [] := List.length_eq_zero_iff.1 hlen
 have hmm : decide (([] : List At) = ofA []) = true := decide_eq_true of_nil.symm
 have HMM := Lib.hid hmm
 clear hmm hne
 have hr : mayT t = mayK t.ks := may_rest (by rw [hT.head, hT.len]; unfold kidsN; exact ⟨by simp, by simp; omega, fun e => absurd e (by simp), fun _ => rfl, of_nil.symm⟩)
 have HR := Lib.hid hr; have HT := Lib.hid hT; have HM := Lib.hid hm; have IH := Lib.hid ih; have HKI := Lib.hid hkid
 clear hr hT hm ih hkid hef hlen
 have hbox : ∀ O : Obj, Below w.heap.size w (w.alloc O) := fun O => box_new O
 have HBOX := Lib.hid hbox
 clear hbox
 go_enter Tryz.func38, Tryz.ntmps38
 go_wp2_with (fail)
 refine (HMAY.out _).mono ?_
 rintro e1 w1 ⟨rfl, hb1⟩
 obtain ⟨c0, c1, c2, c3⟩ := box4 (N := w.heap.size) rfl hb1
 have HB1 := Lib.hid hb1
 clear hb1
 rw [HMM.out]
 go_wp2_with (fail)
 go_loopw [4, 66] (fun _ i wr => ∃ (j : Nat), j ≤ 1 ∧ i = .int .i64 j ∧ Hid (mayK t.ks = mayK (t.ks.drop j)) ∧
  Hid (Below (w.alloc (.cells #[.int .u8 3, .int .i64 v, .slice pe 0 ce, .slice p 1 c] 28)).heap.size (w.alloc (.cells #[.int .u8 3, .int .i64 v, .slice pe 0 ce, .slice p 1 c] 28)) wr)) (fun _ i _ => 1 - (intOf i).toNat)
 case atStart => exact ⟨0, Nat.zero_le _, rfl, Lib.hid (by rw [List.drop_zero]), HB1⟩
 case round =>
  obtain ⟨j, hj, rfl, HLK, HW⟩ := hrel
  obtain ⟨b0, b1, b2, b3⟩ := box4 (N := w.heap.size) rfl HW.out
  have HWW := Lib.hid ((HBOX.out _).trans (HW.out.mono (HBOX.out _).size))
  by_cases hlt : j < 1
  ·have hjk : j < t.ks.length := by rw [HT.out.len]; exact hlt
   have hst := HLK.out
   rw [mayK_step _ _ hjk] at hst
   obtain ⟨b, o, q, c', qe, ce', rfl, hkid, d0, d1, d2, d3⟩ := (HT.out.kids.stay HWW.out).get j hjk
   have hwk := wts_get hjk
   have hwt := wt_ks t
   have hek := allK_get _ hjk HKI.out
   have HST := Lib.hid hst; have HK := Lib.hid hkid
   have HWK := Lib.hid hwk; have HWT := Lib.hid hwt; have HEK := Lib.hid hek
   clear hst hkid hwk hwt hjk hek c0 c1 c2 c3
   go_wp2_with (fail)
   refine (IH.out (tget t.ks j) _ qe _ ce' q _ c' _ (by have := HM.out; have := HWK.out; have := HWT.out; omega) HK.out HEK.out).mono ?_
   rintro e2 w2 ⟨rfl, hb2⟩
   have HW2 := Lib.hid (HW.out.trans (hb2.mono HW.out.size))
   have HWW2 := Lib.hid (HWW.out.trans (hb2.mono HWW.out.size))
   clear hb2 b0 b1 b2 b3 d0 d1 d2 d3
   cases hX : mayT (tget t.ks j)
   ·have hs := HST.out
    rw [hX, Bool.false_and] at hs
    have HS := Lib.hid hs
    clear hs hX
    go_wp2
    go_ret
    exact ⟨ret_bool (by rw [HR.out, HS.out]), HWW2.out⟩
   ·have hs := HST.out
    rw [hX, Bool.true_and] at hs
    have HS := Lib.hid hs
    clear hs hX
    go_wp2
    go_roundw
    case rel => exact ⟨j + 1, by omega, by go_num, HS, HW2⟩
    case measure => first | (simp [intOf]; done) | (simp [intOf]; omega)
  ·obtain rfl : j = 1 := by omega
   have hr := HLK.out
   rw [List.drop_eq_nil_of_le (by rw [HT.out.len]; exact Nat.le_refl _), mayK_nil] at hr
   have HR2 := Lib.hid hr; clear hr
   go_wp2_with (fail)
   go_ret
   exact ⟨ret_bool (by rw [HR.out, HR2.out]), HWW.out⟩
set_option maxRecDepth 10000 in
set_option maxHeartbeats 12800000 in
theorem refMay_4 (m : Nat) (ih : MayOf m) (t : RT) (v : Int) (e : List At) (pe : Option Addr) (ne ce : Nat) (p : Option Addr) (l c : Nat) (w : World) (hm : wt t ≤ m + 1) (hT : RtIs w ⟨4, v, e⟩ pe ne ce p l c t) (hef : allT (effB 100000) t = true) :
  Calls Tryz.prog 38 #[.agg #[.int .u8 4, .int .i64 v, .slice pe ne ce, .slice p l c]] w fun e w' => e = .returned (.bool (mayT t)) ∧ Below w.heap.size w w' := by
 have hnc := (eff_iff.1 (by have := hef; rw [allT_eq, Bool.and_eq_true, hT.head] at this; exact this.1)).1
 have hkid := by have := hef; rw [allT_eq, Bool.and_eq_true] at this; exact this.2
 have hmay := fun O : Obj => Effect.refMay_walk (c := ce) (hT.eff.below (box_new O)).rd (by rw [← hT.elen]; exact hnc)
 have hlen := hT.elen
 obtain ⟨hlc, hncc⟩ := cap63 hT
 simp only at hnc hmay hlen
 have HMAY := Lib.hid hmay
 clear hmay hnc
 by_cases hl : l ≠ 2
 ·have hr : mayT t = false := may_false fun h => by
   rw [hT.head, hT.len] at h; unfold kidsN at h; have := h.1; simp at this; omega
  have b0 : ((l : Int) == 2) = false := by rw [beq_eq_false_iff_ne]; omega
  have b1 : ((l : Int) != 2) = true := by rw [bne, b0]; rfl
  have HR := Lib.hid hr
  clear hr hT ih hef hm HMAY hl hkid hlen
  go_enter Tryz.func38, Tryz.ntmps38
  go_wp2_with (fail)
  go_ret
  exact ⟨ret_bool HR.out.symm, box_new _⟩
 have hl' : l = 2 := Classical.not_not.1 hl
 clear hl
 subst hl'
 by_cases hv : v < 0
 ·have hr : mayT t = false := may_false fun h => by
   rw [hT.head, hT.len] at h; unfold kidsN at h; have := h.2.1; simp at this; omega
  have b0 : decide (v < 0) = true := decide_eq_true hv
  have HR := Lib.hid hr
  clear hr hT ih hef hm HMAY hkid hlen
  go_enter Tryz.func38, Tryz.ntmps38
  go_wp2_with (fail)
  go_ret
  exact ⟨ret_bool HR.out.symm, box_new _⟩
 have b9 : decide (v < 0) = false := decide_eq_false hv
 cases hmm : decide (e = ofA e)
 ·have HMM := Lib.hid hmm
  clear hmm
  have hr : mayT t = false := may_false fun h => by
   rw [hT.head, hT.len] at h; unfold kidsN at h; exact (of_decide_eq_false HMM.out) h.2.2.2.2
  have HR := Lib.hid hr
  clear hr hT ih hef hm  hkid hlen
  go_enter Tryz.func38, Tryz.ntmps38
  go_wp2_with (fail)
  refine (HMAY.out _).mono ?_
  rintro e1 w1 ⟨rfl, hb1⟩
  obtain ⟨c0, c1, c2, c3⟩ := box4 (N := w.heap.size) rfl hb1
  have HB := Lib.hid (below_then (box_new _) hb1 (by simp))
  clear hb1
  rw [HMM.out]
  go_wp2_with (fail)
  go_ret
  exact ⟨ret_bool HR.out.symm, HB.out⟩
 have HMM := Lib.hid hmm
 clear hmm
 have hr : mayT t = mayK t.ks := may_rest (by rw [hT.head, hT.len]; unfold kidsN; exact ⟨by simp, by simp; omega, fun e => absurd e (by simp), fun e => absurd rfl e, of_decide_eq_true HMM.out⟩)
 have HR := Lib.hid hr; have HT := Lib.hid hT; have HM := Lib.hid hm; have IH := Lib.hid ih; have HKI := Lib.hid hkid
 clear hr hT hm ih hkid hef hlen
 have hbox : ∀ O : Obj, Below w.heap.size w (w.alloc O) := fun O => box_new O
 have HBOX := Lib.hid hbox
 clear hbox
 go_enter Tryz.func38, Tryz.ntmps38
 go_wp2_with (fail)
 refine (HMAY.out _).mono ?_
 rintro e1 w1 ⟨rfl, hb1⟩
 obtain ⟨c0, c1, c2, c3⟩ := box4 (N := w.heap.size) rfl hb1
 have HB1 := Lib.hid hb1
 clear hb1
 rw [HMM.out]
 go_wp2_with (fail)
 go_loopw [4, 66] (fun _ i wr => ∃ (j : Nat), j ≤ 2 ∧ i = .int .i64 j ∧ Hid (mayK t.ks = mayK (t.ks.drop j)) ∧
  Hid (Below (w.alloc (.cells #[.int .u8 4, .int .i64 v, .slice pe ne ce, .slice p 2 c] 28)).heap.size (w.alloc (.cells #[.int .u8 4, .int .i64 v, .slice pe ne ce, .slice p 2 c] 28)) wr)) (fun _ i _ => 2 - (intOf i).toNat)
 case atStart => exact ⟨0, Nat.zero_le _, rfl, Lib.hid (by rw [List.drop_zero]), HB1⟩
 case round =>
  obtain ⟨j, hj, rfl, HLK, HW⟩ := hrel
  obtain ⟨b0, b1, b2, b3⟩ := box4 (N := w.heap.size) rfl HW.out
  have HWW := Lib.hid ((HBOX.out _).trans (HW.out.mono (HBOX.out _).size))
  by_cases hlt : j < 2
  ·have hjk : j < t.ks.length := by rw [HT.out.len]; exact hlt
   have hst := HLK.out
   rw [mayK_step _ _ hjk] at hst
   obtain ⟨b, o, q, c', qe, ce', rfl, hkid, d0, d1, d2, d3⟩ := (HT.out.kids.stay HWW.out).get j hjk
   have hwk := wts_get hjk
   have hwt := wt_ks t
   have hek := allK_get _ hjk HKI.out
   have HST := Lib.hid hst; have HK := Lib.hid hkid
   have HWK := Lib.hid hwk; have HWT := Lib.hid hwt; have HEK := Lib.hid hek
   clear hst hkid hwk hwt hjk hek c0 c1 c2 c3
   go_wp2_with (fail)
   refine (IH.out (tget t.ks j) _ qe _ ce' q _ c' _ (by have := HM.out; have := HWK.out; have := HWT.out; omega) HK.out HEK.out).mono ?_
   rintro e2 w2 ⟨rfl, hb2⟩
   have HW2 := Lib.hid (HW.out.trans (hb2.mono HW.out.size))
   have HWW2 := Lib.hid (HWW.out.trans (hb2.mono HWW.out.size))
   clear hb2 b0 b1 b2 b3 d0 d1 d2 d3
   cases hX : mayT (tget t.ks j)
   ·have hs := HST.out
    rw [hX, Bool.false_and] at hs
    have HS := Lib.hid hs
    clear hs hX
    go_wp2
    go_ret
    exact ⟨ret_bool (by rw [HR.out, HS.out]), HWW2.out⟩
   ·have hs := HST.out
    rw [hX, Bool.true_and] at hs
    have HS := Lib.hid hs
    clear hs hX
    go_wp2
    go_roundw
    case rel => exact ⟨j + 1, by omega, by go_num, HS, HW2⟩
    case measure => first | (simp [intOf]; done) | (simp [intOf]; omega)
  ·obtain rfl : j = 2 := by omega
   have hr := HLK.out
   rw [List.drop_eq_nil_of_le (by rw [HT.out.len]; exact Nat.le_refl _), mayK_nil] at hr
   have HR2 := Lib.hid hr; clear hr
   go_wp2_with (fail)
   go_ret
   exact ⟨ret_bool (by rw [HR.out, HR2.out]), HWW.out⟩
set_option maxRecDepth 10000 in
set_option maxHeartbeats 12800000 in
theorem refMay_o (m : Nat) (ih : MayOf m) (t : RT) (k v : Int) (e : List At) (pe : Option Addr) (ne ce : Nat) (p : Option Addr) (l c : Nat) (w : World) (hm : wt t ≤ m + 1) (hT : RtIs w ⟨k, v, e⟩ pe ne ce p l c t) (hef : allT (effB 100000) t = true) (hk0 : 0 ≤ k ∧ k ≤ 255) (h1 : k ≠ 1) (h2 : k ≠ 2) (h3 : k ≠ 3) (h4 : k ≠ 4) :
  Calls Tryz.prog 38 #[.agg #[.int .u8 k, .int .i64 v, .slice pe ne ce, .slice p l c]] w fun e w' => e = .returned (.bool (mayT t)) ∧ Below w.heap.size w w' := by
 have hr : mayT t = false := may_false fun h => by
  rw [hT.head, hT.len] at h
  have h5 := h.1
  unfold kidsN at h5
  simp only [if_neg h1, if_neg h3, if_neg (show ¬ (k = 2 ∨ k = 4) from fun e => e.elim h2 h4)] at h5
  omega
 have b1 : (k == 1) = false := by simpa using h1
 have b2 : (k == 2) = false := by simpa using h2
 have b3 : (k == 3) = false := by simpa using h3
 have b4 : (k == 4) = false := by simpa using h4
 have HR := Lib.hid hr
 clear hr hT ih hef hm
 by_cases hlt : k < 1
 ·have b5 : decide (k < 1) = true := decide_eq_true hlt
  clear h1 h2 h3 h4
  go_enter Tryz.func38, Tryz.ntmps38
  go_wp2_with (fail)
  go_ret
  exact ⟨ret_bool HR.out.symm, box_new _⟩
 ·have b5 : decide (k < 1) = false := decide_eq_false hlt
  have b6 : decide (4 < k) = true := decide_eq_true (by omega)
  clear h1 h2 h3 h4
  go_enter Tryz.func38, Tryz.ntmps38
  go_wp2_with (fail)
  go_ret
  exact ⟨ret_bool HR.out.symm, box_new _⟩
theorem refMay_walk : ∀ m : Nat, MayOf m := by
 intro m
 induction m with
 | zero => intro t h pe ne ce p l c w hm; have := wt_pos t; omega
 | succ m ih =>
  intro t h pe ne ce p l c w hm hT hef
  have hk := hT.ok.k
  obtain ⟨k, v, e⟩ := h
  simp only at hk
  by_cases h1 : k = 1
  ·subst h1; exact refMay_1 m ih t v e pe ne ce p l c w hm hT hef
  by_cases h2 : k = 2
  ·subst h2; exact refMay_2 m ih t v e pe ne ce p l c w hm hT hef
  by_cases h3 : k = 3
  ·subst h3; exact refMay_3 m ih t v e pe ne ce p l c w hm hT hef
  by_cases h4 : k = 4
  ·subst h4; exact refMay_4 m ih t v e pe ne ce p l c w hm hT hef
  exact refMay_o m ih t k v e pe ne ce p l c w hm hT hef hk h1 h2 h3 h4
end Rt
end Go.Proofs.YtkfkpjngiffamaaGreatDoor
