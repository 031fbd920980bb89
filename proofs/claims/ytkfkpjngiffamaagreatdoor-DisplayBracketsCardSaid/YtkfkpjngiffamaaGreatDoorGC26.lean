import Derived.Test.YtkfkpjngiffamaaGreatDoorGC08
import Derived.Test.YtkfkpjngiffamaaGreatDoorGC25
import Derived.Test.YtkfkpjngiffamaaGreatDoorGC15
import Derived.Test.YtkfkpjngiffamaaGreatDoorGC09
import Derived.Test.YtkfkpjngiffamaaGreatDoorGC06
import Derived.Deep.DeepCutAuto
import Derived.BigQuiet
import Derived.Deep.QuietTactic
namespace Go.Proofs.YtkfkpjngiffamaaGreatDoor
open Go.RowKit
open List (getElem_toArray getElem_cons_succ getElem_cons_zero setIfInBounds_toArray set_cons_zero set_cons_succ)
set_option linter.unusedVariables false
set_option linter.unusedSimpArgs false
namespace Aterm
open Effect (RdI nget nget_at nget_mem ret_bool ret_i64 lt_of_block heap_alloc_new ofA)
open Rt (box_new box_at below_then)

theorem rho_eq (h : Hd) : rhoOk h = (!(decide (h.rho < 0)) && !((h.h.k == 17) && (h.rho == 0)) && ([3, 6, 11, 13, 17, 18].contains h.h.k || (h.rho == 0))) := by
 unfold rhoOk
 rw [Bool.eq_iff_iff]
 split
 ·rename_i h1
  simp
  omega
 ·rename_i h1
  split
  ·rename_i h2
   simp [h2]
   omega
  ·rename_i h2
   simp
   omega
def rhoBad (h : Hd) (j : Nat) : Bool := decide (nget h.rhos j < 0) || ((h.h.k == 13) && ((nget h.rhos j == 0) || (h.rhos.take j).contains (nget h.rhos j)))
theorem metO_no : ∀ (xs met : List Int), metO met xs = false ↔ (∀ x ∈ xs, x ∉ met) ∧ (∀ j, j < xs.length → (xs.take j).contains (nget xs j) = false)
 | [], met => by unfold metO; simp
 | x :: xs, met => by
  unfold metO
  rw [Bool.or_eq_false_iff, metO_no xs (met ++ [x])]
  constructor
  ·rintro ⟨h1, h2, h3⟩
   refine ⟨fun y hy => ?_, fun j hj => ?_⟩
   ·rcases List.mem_cons.1 hy with rfl | hy
    ·simpa using h1
    ·exact fun hm => h2 y hy (List.mem_append_left _ hm)
   ·cases j with
    | zero => simp
    | succ j =>
     have hj' : j < xs.length := by simpa using hj
     have h4 := h3 j hj'
     have h5 := h2 (nget xs j) (nget_mem hj')
     show ((x :: xs).take (j + 1)).contains (nget xs j) = false
     rw [List.take_succ_cons, List.contains_cons, h4, Bool.or_false, beq_eq_false_iff_ne]
     intro e
     exact h5 (by rw [e]; simp)
  ·rintro ⟨h1, h2⟩
   refine ⟨by simpa using h1 x (List.mem_cons_self ..), fun y hy => ?_, fun j hj => ?_⟩
   ·intro hm
    rcases List.mem_append.1 hm with hm | hm
    ·exact h1 y (List.mem_cons_of_mem _ hy) hm
    ·have e : y = x := by simpa using hm
     obtain ⟨j, hj, hjy⟩ := List.getElem_of_mem hy
     have h3 := h2 (j + 1) (by simpa using hj)
     have h4 : nget (x :: xs) (j + 1) = y := by
      have := nget_at (l := x :: xs) (i := j + 1) (by simpa using hj)
      rw [List.getElem?_cons_succ, List.getElem?_eq_getElem hj, hjy] at this
      exact (Option.some.inj this).symm
     rw [h4, e, List.take_succ_cons, List.contains_cons] at h3
     simp at h3
   ·have h3 := h2 (j + 1) (by simpa using hj)
    have h4 : nget (x :: xs) (j + 1) = nget xs j := rfl
    rw [h4, List.take_succ_cons, List.contains_cons, Bool.or_eq_false_iff] at h3
    exact h3.2
theorem all_nget {l : List Int} {P : Int → Prop} : (∀ x ∈ l, P x) ↔ ∀ j, j < l.length → P (nget l j) := by
 constructor
 ·intro h j hj; exact h _ (nget_mem hj)
 ·intro h x hx
  obtain ⟨j, hj, rfl⟩ := List.getElem_of_mem hx
  have h1 := nget_at hj
  rw [List.getElem?_eq_getElem hj] at h1
  rw [Option.some.inj h1]; exact h j hj
theorem rhos_eq (h : Hd) : rhosOk h = (!decide (h.h.k ≠ 13 ∧ h.h.k ≠ 18 ∧ 0 < h.rhos.length) && decide (∀ j, j < h.rhos.length → rhoBad h j = false)) := by
 unfold rhosOk rhoBad
 by_cases h13 : h.h.k = 13
 ·rw [if_pos h13]
  have e13 : (h.h.k == 13) = true := by simpa using h13
  simp only [e13]
  rw [Bool.eq_iff_iff]
  simp only [Bool.and_eq_true, Bool.not_eq_true', decide_eq_true_eq, decide_eq_false_iff_not, Bool.true_and, Bool.or_eq_false_iff, metO_no, all_nget (P := fun x => 1 ≤ x)]
  constructor
  ·rintro ⟨⟨_, h1⟩, h2⟩
   refine ⟨fun hh => hh.1 h13, fun j hj => ?_⟩
   have h3 := h2 j hj
   exact ⟨by omega, by simpa using (show nget h.rhos j ≠ 0 by omega), h1 j hj⟩
  ·rintro ⟨_, h2⟩
   refine ⟨⟨fun x _ hm => (by cases hm), fun j hj => (h2 j hj).2.2⟩, fun j hj => ?_⟩
   obtain ⟨h3, h4, _⟩ := h2 j hj
   have : nget h.rhos j ≠ 0 := by simpa using h4
   omega
 ·rw [if_neg h13]
  have e13 : (h.h.k == 13) = false := by simpa using h13
  simp only [e13]
  by_cases h18 : h.h.k = 18
  ·rw [if_pos h18, Bool.eq_iff_iff]
   simp only [Bool.and_eq_true, Bool.not_eq_true', decide_eq_true_eq, decide_eq_false_iff_not, Bool.false_and, Bool.or_false, all_nget (P := fun x => 0 ≤ x)]
   constructor
   ·intro h2
    exact ⟨fun hh => hh.2.1 h18, fun j hj => by have := h2 j hj; omega⟩
   ·rintro ⟨_, h2⟩ j hj
    have := h2 j hj
    omega
  ·rw [if_neg h18, Bool.eq_iff_iff]
   simp only [Bool.and_eq_true, Bool.not_eq_true', decide_eq_true_eq, decide_eq_false_iff_not, Bool.false_and, Bool.or_false]
   constructor
   ·intro h2
    exact ⟨fun hh => by omega, fun j hj => by omega⟩
   ·rintro ⟨h1, _⟩
    have : ¬ 0 < h.rhos.length := fun hh => h1 ⟨h13, h18, hh⟩
    omega
theorem effOk_eq (h : Hd) : effOk h = if [11, 13, 18].contains h.h.k = true then decide (h.e = ofA h.e) else !decide (0 < h.e.length) := by
 have : [11, 13, 18].contains h.h.k = effK h.h.k := by unfold effK; rw [Bool.eq_iff_iff]; simp
 rw [this]
 unfold effOk
 split
 ·rfl
 ·rw [Bool.eq_iff_iff]; simp
theorem typOk_eq (h : Hd) : typOk h = if [11, 13, 15].contains h.h.k = true then Rt.mayT h.ty else plainB h.ty := by
 have : [11, 13, 15].contains h.h.k = typK h.h.k := by unfold typK; rw [Bool.eq_iff_iff]; simp
 rw [this]
 rfl
theorem node_eq (h : Hd) (l : Nat) : nodeB h l = ((((headOk h.h l && rhoOk h) && rhosOk h) && effOk h) && typOk h && resOk h) := rfl
theorem in6 (W : World) (x : Int) : Calls Tryz.prog 35 #[.slice (some ⟨W.heap.size, 0, none⟩) 6 6, .int .u8 x] (W.alloc (.cells #[.int .u8 3, .int .u8 6, .int .u8 11, .int .u8 13, .int .u8 17, .int .u8 18] 5)) fun e w' => e = .returned (.bool ([3, 6, 11, 13, 17, 18].contains x)) ∧ w' = W.alloc (.cells #[.int .u8 3, .int .u8 6, .int .u8 11, .int .u8 13, .int .u8 17, .int .u8 18] 5) :=
 in_walk (show RdB (W.alloc (.cells #[.int .u8 3, .int .u8 6, .int .u8 11, .int .u8 13, .int .u8 17, .int .u8 18] 5)) 6 (some ⟨W.heap.size, 0, none⟩) [3, 6, 11, 13, 17, 18] from RdB.new (W := W) (N := W.heap.size) (ty := 5) (l := [3, 6, 11, 13, 17, 18]) rfl) (by decide) x
theorem in_ef (W : World) (x : Int) : Calls Tryz.prog 35 #[.slice (some ⟨W.heap.size, 0, none⟩) 3 3, .int .u8 x] (W.alloc (.cells #[.int .u8 11, .int .u8 13, .int .u8 18] 5)) fun e w' => e = .returned (.bool ([11, 13, 18].contains x)) ∧ w' = W.alloc (.cells #[.int .u8 11, .int .u8 13, .int .u8 18] 5) :=
 in_walk (show RdB (W.alloc (.cells #[.int .u8 11, .int .u8 13, .int .u8 18] 5)) 3 (some ⟨W.heap.size, 0, none⟩) [11, 13, 18] from RdB.new (W := W) (N := W.heap.size) (ty := 5) (l := [11, 13, 18]) rfl) (by decide) x
theorem in_ty (W : World) (x : Int) : Calls Tryz.prog 35 #[.slice (some ⟨W.heap.size, 0, none⟩) 3 3, .int .u8 x] (W.alloc (.cells #[.int .u8 11, .int .u8 13, .int .u8 15] 5)) fun e w' => e = .returned (.bool ([11, 13, 15].contains x)) ∧ w' = W.alloc (.cells #[.int .u8 11, .int .u8 13, .int .u8 15] 5) :=
 in_walk (show RdB (W.alloc (.cells #[.int .u8 11, .int .u8 13, .int .u8 15] 5)) 3 (some ⟨W.heap.size, 0, none⟩) [11, 13, 15] from RdB.new (W := W) (N := W.heap.size) (ty := 5) (l := [11, 13, 15]) rfl) (by decide) x
set_option maxRecDepth 100000 in
set_option maxHeartbeats 6400000 in
theorem refNodeA_walk (t : AT) (h : Hd) (v : V) (l : Nat) (w : World) (hT : AtIs w h v l t) (hs : smallB h l = true) :
  Calls Tryz.prog 19 #[.agg #[.int .u8 h.h.k, .int .u8 h.h.op, .int .i64 h.h.pl, .int .i64 h.h.n, .string h.h.name, .string h.h.arg, .string h.h.exn, .int .i64 h.rho, .slice v.ra h.rhos.length v.rc, .slice v.ea h.e.length v.ec, .int .u8 h.ty.h.k, .int .i64 h.ty.h.r, .slice v.tea h.ty.h.e.length v.tec, .slice v.tka h.ty.ks.length v.tkc, .int .u8 h.re.h.k, .int .i64 h.re.h.r, .slice v.sea h.re.h.e.length v.sec, .slice v.ska h.re.ks.length v.skc, .slice v.ka l v.kc]] w fun e w' => e = .returned (.bool (nodeB h l)) ∧ Below w.heap.size w w' := by
 obtain ⟨hrl, hel, htl, hrel⟩ := small_ok2 hs
 have hhead := fun (W : World) (hb : Below w.heap.size w W) => head_walk t h v l W (hT.below hb)
 have HHEAD := Lib.hid hhead; have HT := Lib.hid hT; have HSM := Lib.hid (And.intro hrl (And.intro hel (And.intro htl hrel)))
 have HEQ := Lib.hid (node_eq h l)
 clear hhead hT hrl hel htl hrel hs
 go_enter Tryz.func19, Tryz.ntmps19
 go_upto_region 1 with (fail)
 obtain ⟨W0, hW0⟩ : ∃ W0, W0 = w.alloc (.cells #[.int .u8 h.h.k, .int .u8 h.h.op, .int .i64 h.h.pl, .int .i64 h.h.n, .string h.h.name, .string h.h.arg, .string h.h.exn, .int .i64 h.rho, .slice v.ra h.rhos.length v.rc, .slice v.ea h.e.length v.ec, .int .u8 h.ty.h.k, .int .i64 h.ty.h.r, .slice v.tea h.ty.h.e.length v.tec, .slice v.tka h.ty.ks.length v.tkc, .int .u8 h.re.h.k, .int .i64 h.re.h.r, .slice v.sea h.re.h.e.length v.sec, .slice v.ska h.re.ks.length v.skc, .slice v.ka l v.kc] 31) := ⟨_, rfl⟩
 have hbx : Box W0 w.heap.size h v l := by rw [hW0]; exact box_of (w := w) (h := h) (v := v) (l := l)
 have hb0 : Below w.heap.size w W0 := by rw [hW0]; exact box_new _
 rw [← hW0]
 clear hW0
 generalize hN0 : w.heap.size = N0 at hbx ⊢
 have HB0 := Lib.hid hb0; have HBX := Lib.hid hbx; have HRG := Lib.hid hbx.range
 obtain ⟨b0, b1, b2, b3, b4, b5, b6, b7, b8, b9, b10, b11, b12, b13, b14, b15, b16, b17, b18⟩ := hbx
 clear hb0 hN0 b0 b1 b2 b3 b4 b5 b6 b7 b8 b9 b10 b11 b12 b13 b14 b15 b16 b17 b18
 have hbx := HBX.out
 obtain ⟨b0, b1, b2, b3, b4, b5, b6, b7, b8, b9, b10, b11, b12, b13, b14, b15, b16, b17, b18⟩ := hbx
 clear b1 b2 b3 b4 b5 b6 b7 b8 b9 b10 b11 b12 b13 b14 b15 b16 b17 b18
 go_upto_region 2 with (fail)
 clear b0
 go_cut [35] (fun s35 wx => s35 = .bool (!(headOk h.h l && rhoOk h)) ∧ Hid (Below w.heap.size w wx) ∧ Hid (Box wx N0 h v l))
 case first =>
  have hrq := rho_eq h
  have HRQ := Lib.hid hrq
  clear hrq
  go_wp2_with (refine at_load rfl _ rfl N0 0 rfl HRG.out ?_)
  refine (HHEAD.out W0 HB0.out).mono ?_
  rintro e w1 ⟨rfl, hb1⟩
  have HB1 := Lib.hid (below_then HB0.out hb1 HB0.out.size); have HBX1 := Lib.hid (HBX.out.below hb1)
  clear hb1
  cases hX : headOk h.h l
  ·go_wp2_with (fail)
   go_meet
   exact ⟨by rw [hX]; rfl, HB1, HBX1⟩
  have HX := Lib.hid hX
  have hbx := HBX1.out
  obtain ⟨b0, b1, b2, b3, b4, b5, b6, b7, b8, b9, b10, b11, b12, b13, b14, b15, b16, b17, b18⟩ := hbx
  clear b0 b1 b2 b3 b4 b5 b6 b8 b9 b10 b11 b12 b13 b14 b15 b16 b17 b18 hX
  by_cases hneg : h.rho < 0
  ·have g1 : decide (h.rho < 0) = true := decide_eq_true hneg
   have HR := Lib.hid (show rhoOk h = false by rw [HRQ.out, g1]; rfl)
   clear hneg
   go_wp2_with (fail)
   go_meet
   exact ⟨by rw [HX.out, HR.out]; rfl, HB1, HBX1⟩
  have g1 : decide (h.rho < 0) = false := decide_eq_false hneg
  cases hC : [3, 6, 11, 13, 17, 18].contains h.h.k
  ·have e17 : (h.h.k == 17) = false := by
    rw [beq_eq_false_iff_ne]
    intro e
    rw [e] at hC
    exact absurd hC (by decide)
   cases hz : (h.rho == 0)
   ·have ez : (h.rho != 0) = true := by rw [bne, hz]; rfl
    have HR := Lib.hid (show rhoOk h = false by rw [HRQ.out, g1, e17, hC, hz]; rfl)
    have HC := Lib.hid hC
    clear hneg hC
    go_wp2_with (fail)
    refine (in6 w1 h.h.k).mono ?_
    rintro e w2 ⟨rfl, hw2⟩
    have hb2 : Below w1.heap.size w1 w2 := by rw [hw2]; exact box_new _
    have HB2 := Lib.hid (below_then HB1.out hb2 HB1.out.size); have HBX2 := Lib.hid (HBX1.out.below hb2)
    have b7' : w2.cell? ⟨N0, 7, none⟩ = some (.int .i64 h.rho) := (hb2.cell (p := ⟨N0, 7, none⟩) (World.block_lt_of_cell? _ _ b7)).trans b7
    clear hw2 hb2 b7
    rw [HC.out]
    go_wp2_with (fail)
    go_meet
    exact ⟨by rw [HX.out, HR.out]; rfl, HB2, HBX2⟩
   ·have ez : (h.rho != 0) = false := by rw [bne, hz]; rfl
    have HR := Lib.hid (show rhoOk h = true by rw [HRQ.out, g1, e17, hC, hz]; rfl)
    have HC := Lib.hid hC
    clear hneg hC
    go_wp2_with (fail)
    refine (in6 w1 h.h.k).mono ?_
    rintro e w2 ⟨rfl, hw2⟩
    have hb2 : Below w1.heap.size w1 w2 := by rw [hw2]; exact box_new _
    have HB2 := Lib.hid (below_then HB1.out hb2 HB1.out.size); have HBX2 := Lib.hid (HBX1.out.below hb2)
    have b7' : w2.cell? ⟨N0, 7, none⟩ = some (.int .i64 h.rho) := (hb2.cell (p := ⟨N0, 7, none⟩) (World.block_lt_of_cell? _ _ b7)).trans b7
    clear hw2 hb2 b7
    rw [HC.out]
    go_wp2_with (fail)
    go_meet
    exact ⟨by rw [HX.out, HR.out]; rfl, HB2, HBX2⟩
  ·cases h17 : (h.h.k == 17)
   ·have HR := Lib.hid (show rhoOk h = true by rw [HRQ.out, g1, h17, hC]; rfl)
    have HC := Lib.hid hC
    clear hneg hC
    go_wp2_with (fail)
    refine (in6 w1 h.h.k).mono ?_
    rintro e w2 ⟨rfl, hw2⟩
    have hb2 : Below w1.heap.size w1 w2 := by rw [hw2]; exact box_new _
    have HB2 := Lib.hid (below_then HB1.out hb2 HB1.out.size); have HBX2 := Lib.hid (HBX1.out.below hb2)
    clear hw2 hb2 b7
    rw [HC.out]
    go_wp2_with (fail)
    go_meet
    exact ⟨by rw [HX.out, HR.out]; rfl, HB2, HBX2⟩
   ·cases hz : (h.rho == 0)
    ·have HR := Lib.hid (show rhoOk h = true by rw [HRQ.out, g1, h17, hC, hz]; rfl)
     have HC := Lib.hid hC
     clear hneg hC
     go_wp2_with (fail)
     refine (in6 w1 h.h.k).mono ?_
     rintro e w2 ⟨rfl, hw2⟩
     have hb2 : Below w1.heap.size w1 w2 := by rw [hw2]; exact box_new _
     have HB2 := Lib.hid (below_then HB1.out hb2 HB1.out.size); have HBX2 := Lib.hid (HBX1.out.below hb2)
     clear hw2 hb2 b7
     rw [HC.out]
     go_wp2_with (fail)
     go_meet
     exact ⟨by rw [HX.out, HR.out]; rfl, HB2, HBX2⟩
    ·have HR := Lib.hid (show rhoOk h = false by rw [HRQ.out, g1, h17, hC, hz]; rfl)
     clear hneg hC
     go_wp2_with (fail)
     go_meet
     exact ⟨by rw [HX.out, HR.out]; rfl, HB1, HBX1⟩
 case rest =>
  obtain ⟨rfl, HB2, HBX2⟩ := hcut
  clear HB0 HBX HRG
  cases hB : (headOk h.h l && rhoOk h)
  ·have HR := Lib.hid (show nodeB h l = false by rw [HEQ.out, hB]; rfl)
   clear hB
   go_wp2_with (fail)
   go_ret
   exact ⟨ret_bool HR.out.symm, HB2.out⟩
  have HQ := Lib.hid (show nodeB h l = (((rhosOk h && effOk h) && typOk h) && resOk h) by rw [HEQ.out, hB]; rfl)
  clear hB HEQ
  go_upto_region 4 with (fail)
  go_cut [47] (fun s47 wx => s47 = .bool (decide (h.h.k ≠ 13 ∧ h.h.k ≠ 18 ∧ 0 < h.rhos.length)) ∧ wx = wc)
  case first =>
   have hbx := HBX2.out
   obtain ⟨b0, b1, b2, b3, b4, b5, b6, b7, b8, b9, b10, b11, b12, b13, b14, b15, b16, b17, b18⟩ := hbx
   clear b0 b1 b2 b3 b4 b5 b6 b7 b9 b10 b11 b12 b13 b14 b15 b16 b17 b18
   by_cases h13 : h.h.k = 13
   ·have e13 : (h.h.k != 13) = false := by rw [h13]; rfl
    have HR := Lib.hid (show decide (h.h.k ≠ 13 ∧ h.h.k ≠ 18 ∧ 0 < h.rhos.length) = false from decide_eq_false (fun hh => hh.1 h13))
    clear h13
    go_wp2_with (fail)
    go_meet
    exact ⟨by rw [HR.out], rfl⟩
   have e13 : (h.h.k != 13) = true := by simpa using h13
   by_cases h18 : h.h.k = 18
   ·have e18 : (h.h.k != 18) = false := by rw [h18]; rfl
    have HR := Lib.hid (show decide (h.h.k ≠ 13 ∧ h.h.k ≠ 18 ∧ 0 < h.rhos.length) = false from decide_eq_false (fun hh => hh.2.1 h18))
    clear h13 h18
    go_wp2_with (fail)
    go_meet
    exact ⟨by rw [HR.out], rfl⟩
   have e18 : (h.h.k != 18) = true := by simpa using h18
   by_cases hl0 : 0 < h.rhos.length
   ·have g1 : decide ((0 : Int) < (h.rhos.length : Int)) = true := decide_eq_true (by omega)
    have HR := Lib.hid (show decide (h.h.k ≠ 13 ∧ h.h.k ≠ 18 ∧ 0 < h.rhos.length) = true from decide_eq_true ⟨h13, h18, hl0⟩)
    have HG := Lib.hid (decide_eq_true hl0)
    clear h13 h18 hl0
    go_wp2_with (fail)
    go_meet
    exact ⟨by rw [HR.out, HG.out], rfl⟩
   ·have g1 : decide ((0 : Int) < (h.rhos.length : Int)) = false := decide_eq_false (by omega)
    have HR := Lib.hid (show decide (h.h.k ≠ 13 ∧ h.h.k ≠ 18 ∧ 0 < h.rhos.length) = false from decide_eq_false (fun hh => hl0 hh.2.2))
    have HG := Lib.hid (decide_eq_false hl0)
    clear h13 h18 hl0
    go_wp2_with (fail)
    go_meet
    exact ⟨by rw [HR.out, HG.out], rfl⟩
  case rest =>
   obtain ⟨rfl, rfl⟩ := hcut
   cases hB : decide (h.h.k ≠ 13 ∧ h.h.k ≠ 18 ∧ 0 < h.rhos.length)
   case true =>
    have HR := Lib.hid (show nodeB h l = false by rw [HQ.out, rhos_eq h, hB]; rfl)
    clear hB
    go_wp2_with (fail)
    go_ret
    exact ⟨ret_bool HR.out.symm, HB2.out⟩
   have HC := Lib.hid (of_decide_eq_false hB)
   have HQ2 := Lib.hid (show rhosOk h = decide (∀ j, j < h.rhos.length → rhoBad h j = false) by rw [rhos_eq h, hB]; rfl)
   clear hB
   have hri := HT.out.ok.rhos.below HB2.out
   have hrc := HT.out.ok.rcap
   have hbx := HBX2.out
   obtain ⟨b0, b1, b2, b3, b4, b5, b6, b7, b8, b9, b10, b11, b12, b13, b14, b15, b16, b17, b18⟩ := hbx
   clear b0 b1 b2 b3 b4 b5 b6 b7 b9 b10 b11 b12 b13 b14 b15 b16 b17 b18
   have n50 : (h.rhos.length : Int) ≤ 50 := by have := HSM.out.1; omega
   have hrcI : (h.rhos.length : Int) ≤ (v.rc : Int) := by omega
   have HRI := Lib.hid hri
   have HB8 := Lib.hid b8
   clear hri hrc HC
   go_wp2_with (fail)
   clear b8
   go_loopw [4, 51] (fun _ i wr => ∃ j : Nat, j ≤ h.rhos.length ∧ i = .int .i64 j ∧ Hid (Below wc.heap.size wc wr) ∧ Hid (∀ i, i < j → rhoBad h i = false)) (fun _ i _ => h.rhos.length - (intOf i).toNat)
   case atStart => exact ⟨0, Nat.zero_le _, rfl, Lib.hid (Below.refl _ _), Lib.hid (fun i hi => by omega)⟩
   case round =>
    obtain ⟨j, hj, rfl, HB, HE⟩ := hrel
    by_cases hlt : j < h.rhos.length
    ·obtain ⟨b, o, hra, hcx⟩ := HRI.out.get j hlt
     have hbad : rhoBad h j = (decide (nget h.rhos j < 0) || ((h.h.k == 13) && ((nget h.rhos j == 0) || (h.rhos.take j).contains (nget h.rhos j)))) := rfl
     have htk : RdI wr j (some ⟨b, o, none⟩) (h.rhos.take j) := by
      have hrw := HRI.out.below HB.out
      rw [hra] at hrw
      refine ⟨by rw [List.length_take]; omega, ?_, fun x hx => hrw.ok x (List.mem_of_mem_take hx)⟩
      by_cases h0 : j = 0
      ·left; rw [h0]; rfl
      ·right
       refine ⟨b, o, rfl, fun i hi => ?_⟩
       have hi' : i < j := by rw [List.length_take] at hi; omega
       obtain ⟨b2, o2, e2, h2⟩ := hrw.get i (by omega)
       injection e2 with e2
       injection e2 with e3 e4
       subst e3 e4
       rw [h2]
       have h5 := nget_at hi
       rw [List.getElem?_take_of_lt hi'] at h5
       rw [nget_at (show i < h.rhos.length by omega)] at h5
       rw [Option.some.inj h5]
     have hnext : rhoBad h j = false → ∀ i, i < j + 1 → rhoBad h i = false := fun hb i hi => by
      rcases Nat.lt_or_ge i j with hh | hh
      ·exact HE.out i hh
      ·rw [show i = j by omega]; exact hb
     have hstop : rhoBad h j = true → nodeB h l = false := fun hb => by
      have : rhosOk h = false := by
       rw [HQ2.out, decide_eq_false_iff_not]
       intro hh
       have := hh j hlt
       rw [hb] at this; cases this
      rw [HQ.out, this]; rfl
     have k8 := HB8.out
     rw [hra] at k8
     have HBAD := Lib.hid hbad; have HTK := Lib.hid htk; have HNEXT := Lib.hid hnext; have HSTOP := Lib.hid hstop; have HCX := Lib.hid hcx; have HK8 := Lib.hid k8; have HJL := Lib.hid hlt
     have j0 : (0 : Int) ≤ (j : Int) := by omega
     have j1 : (j : Int) < (h.rhos.length : Int) := by omega
     have j2 : decide ((j : Int) < (h.rhos.length : Int)) = true := decide_eq_true j1
     have j3 : (j : Int) ≤ (v.rc : Int) := by omega
     generalize hx : nget h.rhos j = x at *
     generalize h.rhos.length = n at *
     clear hbad htk hnext hstop hcx k8 hra hx hlt hj
     go_upto_region 9 with (fail)
     by_cases hx0 : x < 0
     ·have g1 : decide (x < 0) = true := decide_eq_true hx0
      have HR := Lib.hid (HSTOP.out (by rw [HBAD.out, g1]; rfl))
      clear hx0
      have hini : Below wr.heap.size wr wr.drew := (Below.refl _ _).drew
      refine wp_region_held_drew (S := fun (V : World) => Below wr.heap.size wr V) (by kernel_rfl) hini (fun hHeld => ?_)
      generalize wr.drew = v0 at *
      refine tk (i := 0) (v := .pointer (some ⟨N0, 8, none⟩)) rfl (by kernel_rfl) (fun _ _ _ h => h) (by rfl) ?_ (by assumption) ?_
      ·intro w' hSw
       first | (go_simp; done) | rfl
      refine tk (i := 1) (v := .slice (some ⟨b, o, none⟩) n v.rc) rfl (by kernel_rfl) (fun _ _ _ h => h) (by rfl) ?_ (by assumption) ?_
      ·intro w' hSw
       have k8 : w'.cell? ⟨N0, 8, none⟩ = some (.slice (some ⟨b, o, none⟩) n v.rc) := ((HB.out.trans (hSw.mono HB.out.size)).cell (p := ⟨N0, 8, none⟩) (World.block_lt_of_cell? _ _ HK8.out)).trans HK8.out
       have kx : w'.cell? ⟨b, o + j, none⟩ = some (.int .i64 x) := ((HB.out.trans (hSw.mono HB.out.size)).cell (p := ⟨b, o + j, none⟩) (World.block_lt_of_cell? _ _ HCX.out)).trans HCX.out
       first | (go_simp; done) | rfl
      refine tk (i := 2) (v := .int .i64 j) rfl (by kernel_rfl) (fun _ _ _ h => h) (by rfl) ?_ (by assumption) ?_
      ·intro w' hSw
       first | (go_simp; done) | rfl
      refine tk (i := 3) (v := .pointer (some ⟨b, o + j, none⟩)) rfl (by kernel_rfl) (fun _ _ _ h => h) (by rfl) ?_ (by assumption) ?_
      ·intro w' hSw
       first | (go_simp; done) | rfl
      try simp only [Act.put, getElem_toArray, getElem_cons_succ, getElem_cons_zero, setIfInBounds_toArray, set_cons_zero, set_cons_succ]
      refine tk (i := 4) (v := .int .i64 x) rfl (by kernel_rfl) (fun _ _ _ h => h) (by rfl) ?_ (by assumption) ?_
      ·intro w' hSw
       have k8 : w'.cell? ⟨N0, 8, none⟩ = some (.slice (some ⟨b, o, none⟩) n v.rc) := ((HB.out.trans (hSw.mono HB.out.size)).cell (p := ⟨N0, 8, none⟩) (World.block_lt_of_cell? _ _ HK8.out)).trans HK8.out
       have kx : w'.cell? ⟨b, o + j, none⟩ = some (.int .i64 x) := ((HB.out.trans (hSw.mono HB.out.size)).cell (p := ⟨b, o + j, none⟩) (World.block_lt_of_cell? _ _ HCX.out)).trans HCX.out
       first | (go_simp; done) | rfl
      refine tk (i := 5) (v := .bool true) rfl (by kernel_rfl) (fun _ _ _ h => h) (by rfl) ?_ (by assumption) ?_
      ·intro w' hSw
       first | (go_simp; done) | rfl
      refine tk (i := 6) (v := .bool true) rfl (by kernel_rfl) (fun _ _ _ h => h) (by rfl) ?_ (by assumption) ?_
      ·intro w' hSw
       first | (go_simp; done) | rfl
      refine wpAnyH_take (i := 7) (v := undef) rfl (by kernel_rfl) (by kernel_rfl) (by kernel_rfl) (fun _ _ _ h => h) (Or.inr ⟨by rfl, rfl⟩) (by assumption) ?_
      try simp only [Act.put, getElem_toArray, getElem_cons_succ, getElem_cons_zero, setIfInBounds_toArray, set_cons_zero, set_cons_succ]
      refine wpAnyH_take (i := 8) (v := undef) rfl (by kernel_rfl) (by kernel_rfl) (by kernel_rfl) (fun _ _ _ h => h) (Or.inr ⟨by rfl, rfl⟩) (by assumption) ?_
      refine wpAnyH_take (i := 9) (v := undef) rfl (by kernel_rfl) (by kernel_rfl) (by kernel_rfl) (fun _ _ _ h => h) (Or.inr ⟨by rfl, rfl⟩) (by assumption) ?_
      refine wpAnyH_take (i := 10) (v := undef) rfl (by kernel_rfl) (by kernel_rfl) (by kernel_rfl) (fun _ _ _ h => h) (Or.inr ⟨by rfl, rfl⟩) (by assumption) ?_
      refine wpAnyH_take (i := 11) (v := undef) rfl (by kernel_rfl) (by kernel_rfl) (by kernel_rfl) (fun _ _ _ h => h) (Or.inr ⟨by rfl, rfl⟩) (by assumption) ?_
      try simp only [Act.put, getElem_toArray, getElem_cons_succ, getElem_cons_zero, setIfInBounds_toArray, set_cons_zero, set_cons_succ]
      refine wpAnyH_take (i := 12) (v := undef) rfl (by kernel_rfl) (by kernel_rfl) (by kernel_rfl) (fun _ _ _ h => h) (Or.inr ⟨by rfl, rfl⟩) (by assumption) ?_
      refine wpAnyH_take (i := 13) (v := undef) rfl (by kernel_rfl) (by kernel_rfl) (by kernel_rfl) (fun _ _ _ h => h) (Or.inr ⟨by rfl, rfl⟩) (by assumption) ?_
      refine wpAnyH_take (i := 14) (v := undef) rfl (by kernel_rfl) (by kernel_rfl) (by kernel_rfl) (fun _ _ _ h => h) (Or.inr ⟨by rfl, rfl⟩) (by assumption) ?_
      refine wpAnyH_take (i := 15) (v := undef) rfl (by kernel_rfl) (by kernel_rfl) (by kernel_rfl) (fun _ _ _ h => h) (Or.inr ⟨by rfl, rfl⟩) (by assumption) ?_
      try simp only [Act.put, getElem_toArray, getElem_cons_succ, getElem_cons_zero, setIfInBounds_toArray, set_cons_zero, set_cons_succ]
      refine wpAnyH_take (i := 16) (v := undef) rfl (by kernel_rfl) (by kernel_rfl) (by kernel_rfl) (fun _ _ _ h => h) (Or.inr ⟨by rfl, rfl⟩) (by assumption) ?_
      refine wpAnyH_take (i := 17) (v := undef) rfl (by kernel_rfl) (by kernel_rfl) (by kernel_rfl) (fun _ _ _ h => h) (Or.inr ⟨by rfl, rfl⟩) (by assumption) ?_
      refine wpAnyH_take (i := 18) (v := undef) rfl (by kernel_rfl) (by kernel_rfl) (by kernel_rfl) (fun _ _ _ h => h) (Or.inr ⟨by rfl, rfl⟩) (by assumption) ?_
      refine wpAnyH_take (i := 19) (v := undef) rfl (by kernel_rfl) (by kernel_rfl) (by kernel_rfl) (fun _ _ _ h => h) (Or.inr ⟨by rfl, rfl⟩) (by assumption) ?_
      try simp only [Act.put, getElem_toArray, getElem_cons_succ, getElem_cons_zero, setIfInBounds_toArray, set_cons_zero, set_cons_succ]
      refine wpAnyH_take (i := 20) (v := undef) rfl (by kernel_rfl) (by kernel_rfl) (by kernel_rfl) (fun _ _ _ h => h) (Or.inr ⟨by rfl, rfl⟩) (by assumption) ?_
      refine wpAnyH_take (i := 21) (v := undef) rfl (by kernel_rfl) (by kernel_rfl) (by kernel_rfl) (fun _ _ _ h => h) (Or.inr ⟨by rfl, rfl⟩) (by assumption) ?_
      refine wpAnyH_take (i := 22) (v := undef) rfl (by kernel_rfl) (by kernel_rfl) (by kernel_rfl) (fun _ _ _ h => h) (Or.inr ⟨by rfl, rfl⟩) (by assumption) ?_
      refine wpAnyH_take (i := 23) (v := undef) rfl (by kernel_rfl) (by kernel_rfl) (by kernel_rfl) (fun _ _ _ h => h) (Or.inr ⟨by rfl, rfl⟩) (by assumption) ?_
      try simp only [Act.put, getElem_toArray, getElem_cons_succ, getElem_cons_zero, setIfInBounds_toArray, set_cons_zero, set_cons_succ]
      refine wpAnyH_take (i := 24) (v := undef) rfl (by kernel_rfl) (by kernel_rfl) (by kernel_rfl) (fun _ _ _ h => h) (Or.inr ⟨by rfl, rfl⟩) (by assumption) ?_
      refine wpAnyH_take (i := 25) (v := undef) rfl (by kernel_rfl) (by kernel_rfl) (by kernel_rfl) (fun _ _ _ h => h) (Or.inr ⟨by rfl, rfl⟩) (by assumption) ?_
      refine wpAnyH_take (i := 26) (v := undef) rfl (by kernel_rfl) (by kernel_rfl) (by kernel_rfl) (fun _ _ _ h => h) (Or.inr ⟨by rfl, rfl⟩) (by assumption) ?_
      refine wpAnyH_take (i := 27) (v := undef) rfl (by kernel_rfl) (by kernel_rfl) (by kernel_rfl) (fun _ _ _ h => h) (Or.inr ⟨by rfl, rfl⟩) (by assumption) ?_
      try simp only [Act.put, getElem_toArray, getElem_cons_succ, getElem_cons_zero, setIfInBounds_toArray, set_cons_zero, set_cons_succ]
      refine wpAnyH_take (i := 28) (v := undef) rfl (by kernel_rfl) (by kernel_rfl) (by kernel_rfl) (fun _ _ _ h => h) (Or.inr ⟨by rfl, rfl⟩) (by assumption) ?_
      refine tk (i := 29) (v := .bool true) rfl (by kernel_rfl) (fun _ _ _ h => h) (by rfl) ?_ (by assumption) ?_
      ·intro w' hSw
       first | (go_simp; done) | rfl
      try simp only [Act.put, getElem_toArray, getElem_cons_succ, getElem_cons_zero, setIfInBounds_toArray, set_cons_zero, set_cons_succ]
      refine wpAnyH_done (by kernel_rfl) ?_ _
      clear hHeld
      go_wp2_with (fail)
      go_ret
      exact ⟨ret_bool HR.out.symm, below_then (below_then HB2.out HB.out HB2.out.size) hini (by have := HB2.out.size; have := HB.out.size; omega)⟩
     have g1 : decide (x < 0) = false := decide_eq_false hx0
     by_cases h13 : h.h.k = 13
     case neg =>
      have e13 : (h.h.k == 13) = false := by simpa using h13
      have HR := Lib.hid (HNEXT.out (by rw [HBAD.out, g1, e13]; rfl))
      clear hx0 h13
      have hini : Below wr.heap.size wr wr.drew := (Below.refl _ _).drew
      refine wp_region_held_drew (S := fun (V : World) => Below wr.heap.size wr V) (by kernel_rfl) hini (fun hHeld => ?_)
      generalize wr.drew = v0 at *
      refine tk (i := 0) (v := .pointer (some ⟨N0, 8, none⟩)) rfl (by kernel_rfl) (fun _ _ _ h => h) (by rfl) ?_ (by assumption) ?_
      ·intro w' hSw
       first | (go_simp; done) | rfl
      refine tk (i := 1) (v := .slice (some ⟨b, o, none⟩) n v.rc) rfl (by kernel_rfl) (fun _ _ _ h => h) (by rfl) ?_ (by assumption) ?_
      ·intro w' hSw
       have k8 : w'.cell? ⟨N0, 8, none⟩ = some (.slice (some ⟨b, o, none⟩) n v.rc) := ((HB.out.trans (hSw.mono HB.out.size)).cell (p := ⟨N0, 8, none⟩) (World.block_lt_of_cell? _ _ HK8.out)).trans HK8.out
       have kx : w'.cell? ⟨b, o + j, none⟩ = some (.int .i64 x) := ((HB.out.trans (hSw.mono HB.out.size)).cell (p := ⟨b, o + j, none⟩) (World.block_lt_of_cell? _ _ HCX.out)).trans HCX.out
       first | (go_simp; done) | rfl
      try simp only [Act.put, getElem_toArray, getElem_cons_succ, getElem_cons_zero, setIfInBounds_toArray, set_cons_zero, set_cons_succ]
      refine tk (i := 2) (v := .int .i64 j) rfl (by kernel_rfl) (fun _ _ _ h => h) (by rfl) ?_ (by assumption) ?_
      ·intro w' hSw
       first | (go_simp; done) | rfl
      refine tk (i := 3) (v := .pointer (some ⟨b, o + j, none⟩)) rfl (by kernel_rfl) (fun _ _ _ h => h) (by rfl) ?_ (by assumption) ?_
      ·intro w' hSw
       first | (go_simp; done) | rfl
      refine tk (i := 4) (v := .int .i64 x) rfl (by kernel_rfl) (fun _ _ _ h => h) (by rfl) ?_ (by assumption) ?_
      ·intro w' hSw
       have k8 : w'.cell? ⟨N0, 8, none⟩ = some (.slice (some ⟨b, o, none⟩) n v.rc) := ((HB.out.trans (hSw.mono HB.out.size)).cell (p := ⟨N0, 8, none⟩) (World.block_lt_of_cell? _ _ HK8.out)).trans HK8.out
       have kx : w'.cell? ⟨b, o + j, none⟩ = some (.int .i64 x) := ((HB.out.trans (hSw.mono HB.out.size)).cell (p := ⟨b, o + j, none⟩) (World.block_lt_of_cell? _ _ HCX.out)).trans HCX.out
       first | (go_simp; done) | rfl
      refine tk (i := 5) (v := .bool false) rfl (by kernel_rfl) (fun _ _ _ h => h) (by rfl) ?_ (by assumption) ?_
      ·intro w' hSw
       first | (go_simp; done) | rfl
      try simp only [Act.put, getElem_toArray, getElem_cons_succ, getElem_cons_zero, setIfInBounds_toArray, set_cons_zero, set_cons_succ]
      refine tk (i := 6) (v := .bool false) rfl (by kernel_rfl) (fun _ _ _ h => h) (by rfl) ?_ (by assumption) ?_
      ·intro w' hSw
       first | (go_simp; done) | rfl
      refine tk (i := 7) (v := .int .u8 h.h.k) rfl (by kernel_rfl) (fun _ _ _ h => h) (by rfl) ?_ (by assumption) ?_
      ·intro w' hSw
       first | (go_simp; done) | rfl
      refine tk (i := 8) (v := .bool false) rfl (by kernel_rfl) (fun _ _ _ h => h) (by rfl) ?_ (by assumption) ?_
      ·intro w' hSw
       first | (go_simp; done) | rfl
      refine tk (i := 9) (v := .bool false) rfl (by kernel_rfl) (fun _ _ _ h => h) (by rfl) ?_ (by assumption) ?_
      ·intro w' hSw
       first | (go_simp; done) | rfl
      try simp only [Act.put, getElem_toArray, getElem_cons_succ, getElem_cons_zero, setIfInBounds_toArray, set_cons_zero, set_cons_succ]
      refine wpAnyH_take (i := 10) (v := undef) rfl (by kernel_rfl) (by kernel_rfl) (by kernel_rfl) (fun _ _ _ h => h) (Or.inr ⟨by rfl, rfl⟩) (by assumption) ?_
      refine wpAnyH_take (i := 11) (v := undef) rfl (by kernel_rfl) (by kernel_rfl) (by kernel_rfl) (fun _ _ _ h => h) (Or.inr ⟨by rfl, rfl⟩) (by assumption) ?_
      refine wpAnyH_take (i := 12) (v := undef) rfl (by kernel_rfl) (by kernel_rfl) (by kernel_rfl) (fun _ _ _ h => h) (Or.inr ⟨by rfl, rfl⟩) (by assumption) ?_
      refine wpAnyH_take (i := 13) (v := undef) rfl (by kernel_rfl) (by kernel_rfl) (by kernel_rfl) (fun _ _ _ h => h) (Or.inr ⟨by rfl, rfl⟩) (by assumption) ?_
      try simp only [Act.put, getElem_toArray, getElem_cons_succ, getElem_cons_zero, setIfInBounds_toArray, set_cons_zero, set_cons_succ]
      refine wpAnyH_take (i := 14) (v := undef) rfl (by kernel_rfl) (by kernel_rfl) (by kernel_rfl) (fun _ _ _ h => h) (Or.inr ⟨by rfl, rfl⟩) (by assumption) ?_
      refine wpAnyH_take (i := 15) (v := undef) rfl (by kernel_rfl) (by kernel_rfl) (by kernel_rfl) (fun _ _ _ h => h) (Or.inr ⟨by rfl, rfl⟩) (by assumption) ?_
      refine wpAnyH_take (i := 16) (v := undef) rfl (by kernel_rfl) (by kernel_rfl) (by kernel_rfl) (fun _ _ _ h => h) (Or.inr ⟨by rfl, rfl⟩) (by assumption) ?_
      refine wpAnyH_take (i := 17) (v := undef) rfl (by kernel_rfl) (by kernel_rfl) (by kernel_rfl) (fun _ _ _ h => h) (Or.inr ⟨by rfl, rfl⟩) (by assumption) ?_
      try simp only [Act.put, getElem_toArray, getElem_cons_succ, getElem_cons_zero, setIfInBounds_toArray, set_cons_zero, set_cons_succ]
      refine wpAnyH_take (i := 18) (v := undef) rfl (by kernel_rfl) (by kernel_rfl) (by kernel_rfl) (fun _ _ _ h => h) (Or.inr ⟨by rfl, rfl⟩) (by assumption) ?_
      refine wpAnyH_take (i := 19) (v := undef) rfl (by kernel_rfl) (by kernel_rfl) (by kernel_rfl) (fun _ _ _ h => h) (Or.inr ⟨by rfl, rfl⟩) (by assumption) ?_
      refine wpAnyH_take (i := 20) (v := undef) rfl (by kernel_rfl) (by kernel_rfl) (by kernel_rfl) (fun _ _ _ h => h) (Or.inr ⟨by rfl, rfl⟩) (by assumption) ?_
      refine wpAnyH_take (i := 21) (v := undef) rfl (by kernel_rfl) (by kernel_rfl) (by kernel_rfl) (fun _ _ _ h => h) (Or.inr ⟨by rfl, rfl⟩) (by assumption) ?_
      try simp only [Act.put, getElem_toArray, getElem_cons_succ, getElem_cons_zero, setIfInBounds_toArray, set_cons_zero, set_cons_succ]
      refine wpAnyH_take (i := 22) (v := undef) rfl (by kernel_rfl) (by kernel_rfl) (by kernel_rfl) (fun _ _ _ h => h) (Or.inr ⟨by rfl, rfl⟩) (by assumption) ?_
      refine wpAnyH_take (i := 23) (v := undef) rfl (by kernel_rfl) (by kernel_rfl) (by kernel_rfl) (fun _ _ _ h => h) (Or.inr ⟨by rfl, rfl⟩) (by assumption) ?_
      refine wpAnyH_take (i := 24) (v := undef) rfl (by kernel_rfl) (by kernel_rfl) (by kernel_rfl) (fun _ _ _ h => h) (Or.inr ⟨by rfl, rfl⟩) (by assumption) ?_
      refine wpAnyH_take (i := 25) (v := undef) rfl (by kernel_rfl) (by kernel_rfl) (by kernel_rfl) (fun _ _ _ h => h) (Or.inr ⟨by rfl, rfl⟩) (by assumption) ?_
      try simp only [Act.put, getElem_toArray, getElem_cons_succ, getElem_cons_zero, setIfInBounds_toArray, set_cons_zero, set_cons_succ]
      refine wpAnyH_take (i := 26) (v := undef) rfl (by kernel_rfl) (by kernel_rfl) (by kernel_rfl) (fun _ _ _ h => h) (Or.inr ⟨by rfl, rfl⟩) (by assumption) ?_
      refine wpAnyH_take (i := 27) (v := undef) rfl (by kernel_rfl) (by kernel_rfl) (by kernel_rfl) (fun _ _ _ h => h) (Or.inr ⟨by rfl, rfl⟩) (by assumption) ?_
      refine tk (i := 28) (v := .bool false) rfl (by kernel_rfl) (fun _ _ _ h => h) (by rfl) ?_ (by assumption) ?_
      ·intro w' hSw
       first | (go_simp; done) | rfl
      refine tk (i := 29) (v := .bool false) rfl (by kernel_rfl) (fun _ _ _ h => h) (by rfl) ?_ (by assumption) ?_
      ·intro w' hSw
       first | (go_simp; done) | rfl
      try simp only [Act.put, getElem_toArray, getElem_cons_succ, getElem_cons_zero, setIfInBounds_toArray, set_cons_zero, set_cons_succ]
      refine wpAnyH_done (by kernel_rfl) ?_ _
      clear hHeld
      go_wp2_with (fail)
      go_roundw
      case rel => exact ⟨j + 1, by have := HJL.out; omega, by go_num, Lib.hid (below_then HB.out hini HB.out.size), HR⟩
      case measure => simp [intOf]; have := HJL.out; omega
     have e13 : (h.h.k == 13) = true := by simpa using h13
     cases hz : (x == 0)
     case true =>
      have HR := Lib.hid (HSTOP.out (by rw [HBAD.out, g1, e13, hz]; rfl))
      clear hx0 h13
      have hini : Below wr.heap.size wr wr.drew := (Below.refl _ _).drew
      refine wp_region_held_drew (S := fun (V : World) => Below wr.heap.size wr V) (by kernel_rfl) hini (fun hHeld => ?_)
      generalize wr.drew = v0 at *
      refine tk (i := 0) (v := .pointer (some ⟨N0, 8, none⟩)) rfl (by kernel_rfl) (fun _ _ _ h => h) (by rfl) ?_ (by assumption) ?_
      ·intro w' hSw
       first | (go_simp; done) | rfl
      refine tk (i := 1) (v := .slice (some ⟨b, o, none⟩) n v.rc) rfl (by kernel_rfl) (fun _ _ _ h => h) (by rfl) ?_ (by assumption) ?_
      ·intro w' hSw
       have k8 : w'.cell? ⟨N0, 8, none⟩ = some (.slice (some ⟨b, o, none⟩) n v.rc) := ((HB.out.trans (hSw.mono HB.out.size)).cell (p := ⟨N0, 8, none⟩) (World.block_lt_of_cell? _ _ HK8.out)).trans HK8.out
       have kx : w'.cell? ⟨b, o + j, none⟩ = some (.int .i64 x) := ((HB.out.trans (hSw.mono HB.out.size)).cell (p := ⟨b, o + j, none⟩) (World.block_lt_of_cell? _ _ HCX.out)).trans HCX.out
       first | (go_simp; done) | rfl
      refine tk (i := 2) (v := .int .i64 j) rfl (by kernel_rfl) (fun _ _ _ h => h) (by rfl) ?_ (by assumption) ?_
      ·intro w' hSw
       first | (go_simp; done) | rfl
      refine tk (i := 3) (v := .pointer (some ⟨b, o + j, none⟩)) rfl (by kernel_rfl) (fun _ _ _ h => h) (by rfl) ?_ (by assumption) ?_
      ·intro w' hSw
       first | (go_simp; done) | rfl
      try simp only [Act.put, getElem_toArray, getElem_cons_succ, getElem_cons_zero, setIfInBounds_toArray, set_cons_zero, set_cons_succ]
      refine tk (i := 4) (v := .int .i64 x) rfl (by kernel_rfl) (fun _ _ _ h => h) (by rfl) ?_ (by assumption) ?_
      ·intro w' hSw
       have k8 : w'.cell? ⟨N0, 8, none⟩ = some (.slice (some ⟨b, o, none⟩) n v.rc) := ((HB.out.trans (hSw.mono HB.out.size)).cell (p := ⟨N0, 8, none⟩) (World.block_lt_of_cell? _ _ HK8.out)).trans HK8.out
       have kx : w'.cell? ⟨b, o + j, none⟩ = some (.int .i64 x) := ((HB.out.trans (hSw.mono HB.out.size)).cell (p := ⟨b, o + j, none⟩) (World.block_lt_of_cell? _ _ HCX.out)).trans HCX.out
       first | (go_simp; done) | rfl
      refine tk (i := 5) (v := .bool false) rfl (by kernel_rfl) (fun _ _ _ h => h) (by rfl) ?_ (by assumption) ?_
      ·intro w' hSw
       first | (go_simp; done) | rfl
      refine tk (i := 6) (v := .bool false) rfl (by kernel_rfl) (fun _ _ _ h => h) (by rfl) ?_ (by assumption) ?_
      ·intro w' hSw
       first | (go_simp; done) | rfl
      refine tk (i := 7) (v := .int .u8 h.h.k) rfl (by kernel_rfl) (fun _ _ _ h => h) (by rfl) ?_ (by assumption) ?_
      ·intro w' hSw
       first | (go_simp; done) | rfl
      try simp only [Act.put, getElem_toArray, getElem_cons_succ, getElem_cons_zero, setIfInBounds_toArray, set_cons_zero, set_cons_succ]
      refine tk (i := 8) (v := .bool true) rfl (by kernel_rfl) (fun _ _ _ h => h) (by rfl) ?_ (by assumption) ?_
      ·intro w' hSw
       first | (go_simp; done) | rfl
      refine tk (i := 9) (v := .bool true) rfl (by kernel_rfl) (fun _ _ _ h => h) (by rfl) ?_ (by assumption) ?_
      ·intro w' hSw
       first | (go_simp; done) | rfl
      refine tk (i := 10) (v := .pointer (some ⟨N0, 8, none⟩)) rfl (by kernel_rfl) (fun _ _ _ h => h) (by rfl) ?_ (by assumption) ?_
      ·intro w' hSw
       first | (go_simp; done) | rfl
      refine tk (i := 11) (v := .slice (some ⟨b, o, none⟩) n v.rc) rfl (by kernel_rfl) (fun _ _ _ h => h) (by rfl) ?_ (by assumption) ?_
      ·intro w' hSw
       have k8 : w'.cell? ⟨N0, 8, none⟩ = some (.slice (some ⟨b, o, none⟩) n v.rc) := ((HB.out.trans (hSw.mono HB.out.size)).cell (p := ⟨N0, 8, none⟩) (World.block_lt_of_cell? _ _ HK8.out)).trans HK8.out
       have kx : w'.cell? ⟨b, o + j, none⟩ = some (.int .i64 x) := ((HB.out.trans (hSw.mono HB.out.size)).cell (p := ⟨b, o + j, none⟩) (World.block_lt_of_cell? _ _ HCX.out)).trans HCX.out
       first | (go_simp; done) | rfl
      try simp only [Act.put, getElem_toArray, getElem_cons_succ, getElem_cons_zero, setIfInBounds_toArray, set_cons_zero, set_cons_succ]
      refine tk (i := 12) (v := .int .i64 j) rfl (by kernel_rfl) (fun _ _ _ h => h) (by rfl) ?_ (by assumption) ?_
      ·intro w' hSw
       first | (go_simp; done) | rfl
      refine tk (i := 13) (v := .pointer (some ⟨b, o + j, none⟩)) rfl (by kernel_rfl) (fun _ _ _ h => h) (by rfl) ?_ (by assumption) ?_
      ·intro w' hSw
       first | (go_simp; done) | rfl
      refine tk (i := 14) (v := .int .i64 x) rfl (by kernel_rfl) (fun _ _ _ h => h) (by rfl) ?_ (by assumption) ?_
      ·intro w' hSw
       have k8 : w'.cell? ⟨N0, 8, none⟩ = some (.slice (some ⟨b, o, none⟩) n v.rc) := ((HB.out.trans (hSw.mono HB.out.size)).cell (p := ⟨N0, 8, none⟩) (World.block_lt_of_cell? _ _ HK8.out)).trans HK8.out
       have kx : w'.cell? ⟨b, o + j, none⟩ = some (.int .i64 x) := ((HB.out.trans (hSw.mono HB.out.size)).cell (p := ⟨b, o + j, none⟩) (World.block_lt_of_cell? _ _ HCX.out)).trans HCX.out
       first | (go_simp; done) | rfl
      refine tk (i := 15) (v := .bool true) rfl (by kernel_rfl) (fun _ _ _ h => h) (by rfl) ?_ (by assumption) ?_
      ·intro w' hSw
       first | (go_simp; done) | rfl
      try simp only [Act.put, getElem_toArray, getElem_cons_succ, getElem_cons_zero, setIfInBounds_toArray, set_cons_zero, set_cons_succ]
      refine tk (i := 16) (v := .bool true) rfl (by kernel_rfl) (fun _ _ _ h => h) (by rfl) ?_ (by assumption) ?_
      ·intro w' hSw
       first | (go_simp; done) | rfl
      refine wpAnyH_take (i := 17) (v := undef) rfl (by kernel_rfl) (by kernel_rfl) (by kernel_rfl) (fun _ _ _ h => h) (Or.inr ⟨by rfl, rfl⟩) (by assumption) ?_
      refine wpAnyH_take (i := 18) (v := undef) rfl (by kernel_rfl) (by kernel_rfl) (by kernel_rfl) (fun _ _ _ h => h) (Or.inr ⟨by rfl, rfl⟩) (by assumption) ?_
      refine wpAnyH_take (i := 19) (v := undef) rfl (by kernel_rfl) (by kernel_rfl) (by kernel_rfl) (fun _ _ _ h => h) (Or.inr ⟨by rfl, rfl⟩) (by assumption) ?_
      try simp only [Act.put, getElem_toArray, getElem_cons_succ, getElem_cons_zero, setIfInBounds_toArray, set_cons_zero, set_cons_succ]
      refine wpAnyH_take (i := 20) (v := undef) rfl (by kernel_rfl) (by kernel_rfl) (by kernel_rfl) (fun _ _ _ h => h) (Or.inr ⟨by rfl, rfl⟩) (by assumption) ?_
      refine wpAnyH_take (i := 21) (v := undef) rfl (by kernel_rfl) (by kernel_rfl) (by kernel_rfl) (fun _ _ _ h => h) (Or.inr ⟨by rfl, rfl⟩) (by assumption) ?_
      refine wpAnyH_take (i := 22) (v := undef) rfl (by kernel_rfl) (by kernel_rfl) (by kernel_rfl) (fun _ _ _ h => h) (Or.inr ⟨by rfl, rfl⟩) (by assumption) ?_
      refine wpAnyH_take (i := 23) (v := undef) rfl (by kernel_rfl) (by kernel_rfl) (by kernel_rfl) (fun _ _ _ h => h) (Or.inr ⟨by rfl, rfl⟩) (by assumption) ?_
      try simp only [Act.put, getElem_toArray, getElem_cons_succ, getElem_cons_zero, setIfInBounds_toArray, set_cons_zero, set_cons_succ]
      refine wpAnyH_take (i := 24) (v := undef) rfl (by kernel_rfl) (by kernel_rfl) (by kernel_rfl) (fun _ _ _ h => h) (Or.inr ⟨by rfl, rfl⟩) (by assumption) ?_
      refine wpAnyH_take (i := 25) (v := undef) rfl (by kernel_rfl) (by kernel_rfl) (by kernel_rfl) (fun _ _ _ h => h) (Or.inr ⟨by rfl, rfl⟩) (by assumption) ?_
      refine wpAnyH_take (i := 26) (v := undef) rfl (by kernel_rfl) (by kernel_rfl) (by kernel_rfl) (fun _ _ _ h => h) (Or.inr ⟨by rfl, rfl⟩) (by assumption) ?_
      refine tk (i := 27) (v := .bool true) rfl (by kernel_rfl) (fun _ _ _ h => h) (by rfl) ?_ (by assumption) ?_
      ·intro w' hSw
       first | (go_simp; done) | rfl
      try simp only [Act.put, getElem_toArray, getElem_cons_succ, getElem_cons_zero, setIfInBounds_toArray, set_cons_zero, set_cons_succ]
      refine tk (i := 28) (v := .bool true) rfl (by kernel_rfl) (fun _ _ _ h => h) (by rfl) ?_ (by assumption) ?_
      ·intro w' hSw
       first | (go_simp; done) | rfl
      refine tk (i := 29) (v := .bool true) rfl (by kernel_rfl) (fun _ _ _ h => h) (by rfl) ?_ (by assumption) ?_
      ·intro w' hSw
       first | (go_simp; done) | rfl
      try simp only [Act.put, getElem_toArray, getElem_cons_succ, getElem_cons_zero, setIfInBounds_toArray, set_cons_zero, set_cons_succ]
      refine wpAnyH_done (by kernel_rfl) ?_ _
      clear hHeld
      go_wp2_with (fail)
      go_ret
      exact ⟨ret_bool HR.out.symm, below_then (below_then HB2.out HB.out HB2.out.size) hini (by have := HB2.out.size; have := HB.out.size; omega)⟩
     have hins := fun (W : World) (hb : Below wr.heap.size wr W) => Effect.refInts_walk (c := v.rc) (HTK.out.below hb) (by omega) x
     cases hC : (h.rhos.take j).contains x
     ·have HR := Lib.hid (HNEXT.out (by rw [HBAD.out, g1, e13, hz, hC]; rfl))
      rw [hC] at hins
      have HINS := Lib.hid hins
      clear hins hC hx0 h13
      have hini : Below wr.heap.size wr wr.drew := (Below.refl _ _).drew
      refine wp_region_held_drew (S := fun (V : World) => Below wr.heap.size wr V) (by kernel_rfl) hini (fun hHeld => ?_)
      generalize wr.drew = v0 at *
      refine tk (i := 0) (v := .pointer (some ⟨N0, 8, none⟩)) rfl (by kernel_rfl) (fun _ _ _ h => h) (by rfl) ?_ (by assumption) ?_
      ·intro w' hSw
       first | (go_simp; done) | rfl
      refine tk (i := 1) (v := .slice (some ⟨b, o, none⟩) n v.rc) rfl (by kernel_rfl) (fun _ _ _ h => h) (by rfl) ?_ (by assumption) ?_
      ·intro w' hSw
       have k8 : w'.cell? ⟨N0, 8, none⟩ = some (.slice (some ⟨b, o, none⟩) n v.rc) := ((HB.out.trans (hSw.mono HB.out.size)).cell (p := ⟨N0, 8, none⟩) (World.block_lt_of_cell? _ _ HK8.out)).trans HK8.out
       have kx : w'.cell? ⟨b, o + j, none⟩ = some (.int .i64 x) := ((HB.out.trans (hSw.mono HB.out.size)).cell (p := ⟨b, o + j, none⟩) (World.block_lt_of_cell? _ _ HCX.out)).trans HCX.out
       first | (go_simp; done) | rfl
      try simp only [Act.put, getElem_toArray, getElem_cons_succ, getElem_cons_zero, setIfInBounds_toArray, set_cons_zero, set_cons_succ]
      refine tk (i := 2) (v := .int .i64 j) rfl (by kernel_rfl) (fun _ _ _ h => h) (by rfl) ?_ (by assumption) ?_
      ·intro w' hSw
       first | (go_simp; done) | rfl
      refine tk (i := 3) (v := .pointer (some ⟨b, o + j, none⟩)) rfl (by kernel_rfl) (fun _ _ _ h => h) (by rfl) ?_ (by assumption) ?_
      ·intro w' hSw
       first | (go_simp; done) | rfl
      refine tk (i := 4) (v := .int .i64 x) rfl (by kernel_rfl) (fun _ _ _ h => h) (by rfl) ?_ (by assumption) ?_
      ·intro w' hSw
       have k8 : w'.cell? ⟨N0, 8, none⟩ = some (.slice (some ⟨b, o, none⟩) n v.rc) := ((HB.out.trans (hSw.mono HB.out.size)).cell (p := ⟨N0, 8, none⟩) (World.block_lt_of_cell? _ _ HK8.out)).trans HK8.out
       have kx : w'.cell? ⟨b, o + j, none⟩ = some (.int .i64 x) := ((HB.out.trans (hSw.mono HB.out.size)).cell (p := ⟨b, o + j, none⟩) (World.block_lt_of_cell? _ _ HCX.out)).trans HCX.out
       first | (go_simp; done) | rfl
      refine tk (i := 5) (v := .bool false) rfl (by kernel_rfl) (fun _ _ _ h => h) (by rfl) ?_ (by assumption) ?_
      ·intro w' hSw
       first | (go_simp; done) | rfl
      try simp only [Act.put, getElem_toArray, getElem_cons_succ, getElem_cons_zero, setIfInBounds_toArray, set_cons_zero, set_cons_succ]
      refine tk (i := 6) (v := .bool false) rfl (by kernel_rfl) (fun _ _ _ h => h) (by rfl) ?_ (by assumption) ?_
      ·intro w' hSw
       first | (go_simp; done) | rfl
      refine tk (i := 7) (v := .int .u8 h.h.k) rfl (by kernel_rfl) (fun _ _ _ h => h) (by rfl) ?_ (by assumption) ?_
      ·intro w' hSw
       first | (go_simp; done) | rfl
      refine tk (i := 8) (v := .bool true) rfl (by kernel_rfl) (fun _ _ _ h => h) (by rfl) ?_ (by assumption) ?_
      ·intro w' hSw
       first | (go_simp; done) | rfl
      refine tk (i := 9) (v := .bool true) rfl (by kernel_rfl) (fun _ _ _ h => h) (by rfl) ?_ (by assumption) ?_
      ·intro w' hSw
       first | (go_simp; done) | rfl
      try simp only [Act.put, getElem_toArray, getElem_cons_succ, getElem_cons_zero, setIfInBounds_toArray, set_cons_zero, set_cons_succ]
      refine tk (i := 10) (v := .pointer (some ⟨N0, 8, none⟩)) rfl (by kernel_rfl) (fun _ _ _ h => h) (by rfl) ?_ (by assumption) ?_
      ·intro w' hSw
       first | (go_simp; done) | rfl
      refine tk (i := 11) (v := .slice (some ⟨b, o, none⟩) n v.rc) rfl (by kernel_rfl) (fun _ _ _ h => h) (by rfl) ?_ (by assumption) ?_
      ·intro w' hSw
       have k8 : w'.cell? ⟨N0, 8, none⟩ = some (.slice (some ⟨b, o, none⟩) n v.rc) := ((HB.out.trans (hSw.mono HB.out.size)).cell (p := ⟨N0, 8, none⟩) (World.block_lt_of_cell? _ _ HK8.out)).trans HK8.out
       have kx : w'.cell? ⟨b, o + j, none⟩ = some (.int .i64 x) := ((HB.out.trans (hSw.mono HB.out.size)).cell (p := ⟨b, o + j, none⟩) (World.block_lt_of_cell? _ _ HCX.out)).trans HCX.out
       first | (go_simp; done) | rfl
      refine tk (i := 12) (v := .int .i64 j) rfl (by kernel_rfl) (fun _ _ _ h => h) (by rfl) ?_ (by assumption) ?_
      ·intro w' hSw
       first | (go_simp; done) | rfl
      refine tk (i := 13) (v := .pointer (some ⟨b, o + j, none⟩)) rfl (by kernel_rfl) (fun _ _ _ h => h) (by rfl) ?_ (by assumption) ?_
      ·intro w' hSw
       first | (go_simp; done) | rfl
      try simp only [Act.put, getElem_toArray, getElem_cons_succ, getElem_cons_zero, setIfInBounds_toArray, set_cons_zero, set_cons_succ]
      refine tk (i := 14) (v := .int .i64 x) rfl (by kernel_rfl) (fun _ _ _ h => h) (by rfl) ?_ (by assumption) ?_
      ·intro w' hSw
       have k8 : w'.cell? ⟨N0, 8, none⟩ = some (.slice (some ⟨b, o, none⟩) n v.rc) := ((HB.out.trans (hSw.mono HB.out.size)).cell (p := ⟨N0, 8, none⟩) (World.block_lt_of_cell? _ _ HK8.out)).trans HK8.out
       have kx : w'.cell? ⟨b, o + j, none⟩ = some (.int .i64 x) := ((HB.out.trans (hSw.mono HB.out.size)).cell (p := ⟨b, o + j, none⟩) (World.block_lt_of_cell? _ _ HCX.out)).trans HCX.out
       first | (go_simp; done) | rfl
      refine tk (i := 15) (v := .bool false) rfl (by kernel_rfl) (fun _ _ _ h => h) (by rfl) ?_ (by assumption) ?_
      ·intro w' hSw
       first | (go_simp; done) | rfl
      refine tk (i := 16) (v := .bool false) rfl (by kernel_rfl) (fun _ _ _ h => h) (by rfl) ?_ (by assumption) ?_
      ·intro w' hSw
       first | (go_simp; done) | rfl
      refine tk (i := 17) (v := .pointer (some ⟨N0, 8, none⟩)) rfl (by kernel_rfl) (fun _ _ _ h => h) (by rfl) ?_ (by assumption) ?_
      ·intro w' hSw
       first | (go_simp; done) | rfl
      try simp only [Act.put, getElem_toArray, getElem_cons_succ, getElem_cons_zero, setIfInBounds_toArray, set_cons_zero, set_cons_succ]
      refine tk (i := 18) (v := .slice (some ⟨b, o, none⟩) n v.rc) rfl (by kernel_rfl) (fun _ _ _ h => h) (by rfl) ?_ (by assumption) ?_
      ·intro w' hSw
       have k8 : w'.cell? ⟨N0, 8, none⟩ = some (.slice (some ⟨b, o, none⟩) n v.rc) := ((HB.out.trans (hSw.mono HB.out.size)).cell (p := ⟨N0, 8, none⟩) (World.block_lt_of_cell? _ _ HK8.out)).trans HK8.out
       have kx : w'.cell? ⟨b, o + j, none⟩ = some (.int .i64 x) := ((HB.out.trans (hSw.mono HB.out.size)).cell (p := ⟨b, o + j, none⟩) (World.block_lt_of_cell? _ _ HCX.out)).trans HCX.out
       first | (go_simp; done) | rfl
      refine tk (i := 19) (v := .int .i64 j) rfl (by kernel_rfl) (fun _ _ _ h => h) (by rfl) ?_ (by assumption) ?_
      ·intro w' hSw
       first | (go_simp; done) | rfl
      refine tk (i := 20) (v := .slice (some ⟨b, o, none⟩) j v.rc) rfl (by kernel_rfl) (fun _ _ _ h => h) (by rfl) ?_ (by assumption) ?_
      ·intro w' hSw
       first | (go_simp; done) | rfl
      refine tk (i := 21) (v := .pointer (some ⟨N0, 8, none⟩)) rfl (by kernel_rfl) (fun _ _ _ h => h) (by rfl) ?_ (by assumption) ?_
      ·intro w' hSw
       first | (go_simp; done) | rfl
      try simp only [Act.put, getElem_toArray, getElem_cons_succ, getElem_cons_zero, setIfInBounds_toArray, set_cons_zero, set_cons_succ]
      refine tk (i := 22) (v := .slice (some ⟨b, o, none⟩) n v.rc) rfl (by kernel_rfl) (fun _ _ _ h => h) (by rfl) ?_ (by assumption) ?_
      ·intro w' hSw
       have k8 : w'.cell? ⟨N0, 8, none⟩ = some (.slice (some ⟨b, o, none⟩) n v.rc) := ((HB.out.trans (hSw.mono HB.out.size)).cell (p := ⟨N0, 8, none⟩) (World.block_lt_of_cell? _ _ HK8.out)).trans HK8.out
       have kx : w'.cell? ⟨b, o + j, none⟩ = some (.int .i64 x) := ((HB.out.trans (hSw.mono HB.out.size)).cell (p := ⟨b, o + j, none⟩) (World.block_lt_of_cell? _ _ HCX.out)).trans HCX.out
       first | (go_simp; done) | rfl
      refine tk (i := 23) (v := .int .i64 j) rfl (by kernel_rfl) (fun _ _ _ h => h) (by rfl) ?_ (by assumption) ?_
      ·intro w' hSw
       first | (go_simp; done) | rfl
      refine tk (i := 24) (v := .pointer (some ⟨b, o + j, none⟩)) rfl (by kernel_rfl) (fun _ _ _ h => h) (by rfl) ?_ (by assumption) ?_
      ·intro w' hSw
       first | (go_simp; done) | rfl
      refine tk (i := 25) (v := .int .i64 x) rfl (by kernel_rfl) (fun _ _ _ h => h) (by rfl) ?_ (by assumption) ?_
      ·intro w' hSw
       have k8 : w'.cell? ⟨N0, 8, none⟩ = some (.slice (some ⟨b, o, none⟩) n v.rc) := ((HB.out.trans (hSw.mono HB.out.size)).cell (p := ⟨N0, 8, none⟩) (World.block_lt_of_cell? _ _ HK8.out)).trans HK8.out
       have kx : w'.cell? ⟨b, o + j, none⟩ = some (.int .i64 x) := ((HB.out.trans (hSw.mono HB.out.size)).cell (p := ⟨b, o + j, none⟩) (World.block_lt_of_cell? _ _ HCX.out)).trans HCX.out
       first | (go_simp; done) | rfl
      try simp only [Act.put, getElem_toArray, getElem_cons_succ, getElem_cons_zero, setIfInBounds_toArray, set_cons_zero, set_cons_succ]
      refine wpAnyH_ready (rs := [26]) (by kernel_rfl) (by simp) ?_
      refine AllReadyH.cons rfl (fun K hK => ?_) AllReadyH.nil
      have HK2 := Lib.hid hK
      clear hK
      try rw [if_pos (by rfl)]
      go_simp
      refine (HINS.out _ hini).mono ?_
      rintro e w9 ⟨rfl, rfl⟩
      refine HK2.out _ _ hini (fun hHeld => ?_)
      clear HK2
      try simp only [Act.put, getElem_toArray, getElem_cons_succ, getElem_cons_zero, setIfInBounds_toArray, set_cons_zero, set_cons_succ]
      clear K
      refine tk (i := 27) (v := .bool false) rfl (by kernel_rfl) (fun _ _ _ h => h) (by rfl) ?_ (by assumption) ?_
      ·intro w' hSw
       first | (go_simp; done) | rfl
      refine tk (i := 28) (v := .bool false) rfl (by kernel_rfl) (fun _ _ _ h => h) (by rfl) ?_ (by assumption) ?_
      ·intro w' hSw
       first | (go_simp; done) | rfl
      refine tk (i := 29) (v := .bool false) rfl (by kernel_rfl) (fun _ _ _ h => h) (by rfl) ?_ (by assumption) ?_
      ·intro w' hSw
       first | (go_simp; done) | rfl
      try simp only [Act.put, getElem_toArray, getElem_cons_succ, getElem_cons_zero, setIfInBounds_toArray, set_cons_zero, set_cons_succ]
      refine wpAnyH_done (by kernel_rfl) ?_ _
      clear hHeld
      go_wp2_with (fail)
      go_roundw
      case rel => exact ⟨j + 1, by have := HJL.out; omega, by go_num, Lib.hid (below_then HB.out hini HB.out.size), HR⟩
      case measure => simp [intOf]; have := HJL.out; omega
     ·have HR := Lib.hid (HSTOP.out (by rw [HBAD.out, g1, e13, hz, hC]; rfl))
      rw [hC] at hins
      have HINS := Lib.hid hins
      clear hins hC hx0 h13
      have hini : Below wr.heap.size wr wr.drew := (Below.refl _ _).drew
      refine wp_region_held_drew (S := fun (V : World) => Below wr.heap.size wr V) (by kernel_rfl) hini (fun hHeld => ?_)
      generalize wr.drew = v0 at *
      refine tk (i := 0) (v := .pointer (some ⟨N0, 8, none⟩)) rfl (by kernel_rfl) (fun _ _ _ h => h) (by rfl) ?_ (by assumption) ?_
      ·intro w' hSw
       first | (go_simp; done) | rfl
      refine tk (i := 1) (v := .slice (some ⟨b, o, none⟩) n v.rc) rfl (by kernel_rfl) (fun _ _ _ h => h) (by rfl) ?_ (by assumption) ?_
      ·intro w' hSw
       have k8 : w'.cell? ⟨N0, 8, none⟩ = some (.slice (some ⟨b, o, none⟩) n v.rc) := ((HB.out.trans (hSw.mono HB.out.size)).cell (p := ⟨N0, 8, none⟩) (World.block_lt_of_cell? _ _ HK8.out)).trans HK8.out
       have kx : w'.cell? ⟨b, o + j, none⟩ = some (.int .i64 x) := ((HB.out.trans (hSw.mono HB.out.size)).cell (p := ⟨b, o + j, none⟩) (World.block_lt_of_cell? _ _ HCX.out)).trans HCX.out
       first | (go_simp; done) | rfl
      refine tk (i := 2) (v := .int .i64 j) rfl (by kernel_rfl) (fun _ _ _ h => h) (by rfl) ?_ (by assumption) ?_
      ·intro w' hSw
       first | (go_simp; done) | rfl
      refine tk (i := 3) (v := .pointer (some ⟨b, o + j, none⟩)) rfl (by kernel_rfl) (fun _ _ _ h => h) (by rfl) ?_ (by assumption) ?_
      ·intro w' hSw
       first | (go_simp; done) | rfl
      try simp only [Act.put, getElem_toArray, getElem_cons_succ, getElem_cons_zero, setIfInBounds_toArray, set_cons_zero, set_cons_succ]
      refine tk (i := 4) (v := .int .i64 x) rfl (by kernel_rfl) (fun _ _ _ h => h) (by rfl) ?_ (by assumption) ?_
      ·intro w' hSw
       have k8 : w'.cell? ⟨N0, 8, none⟩ = some (.slice (some ⟨b, o, none⟩) n v.rc) := ((HB.out.trans (hSw.mono HB.out.size)).cell (p := ⟨N0, 8, none⟩) (World.block_lt_of_cell? _ _ HK8.out)).trans HK8.out
       have kx : w'.cell? ⟨b, o + j, none⟩ = some (.int .i64 x) := ((HB.out.trans (hSw.mono HB.out.size)).cell (p := ⟨b, o + j, none⟩) (World.block_lt_of_cell? _ _ HCX.out)).trans HCX.out
       first | (go_simp; done) | rfl
      refine tk (i := 5) (v := .bool false) rfl (by kernel_rfl) (fun _ _ _ h => h) (by rfl) ?_ (by assumption) ?_
      ·intro w' hSw
       first | (go_simp; done) | rfl
      refine tk (i := 6) (v := .bool false) rfl (by kernel_rfl) (fun _ _ _ h => h) (by rfl) ?_ (by assumption) ?_
      ·intro w' hSw
       first | (go_simp; done) | rfl
      refine tk (i := 7) (v := .int .u8 h.h.k) rfl (by kernel_rfl) (fun _ _ _ h => h) (by rfl) ?_ (by assumption) ?_
      ·intro w' hSw
       first | (go_simp; done) | rfl
      try simp only [Act.put, getElem_toArray, getElem_cons_succ, getElem_cons_zero, setIfInBounds_toArray, set_cons_zero, set_cons_succ]
      refine tk (i := 8) (v := .bool true) rfl (by kernel_rfl) (fun _ _ _ h => h) (by rfl) ?_ (by assumption) ?_
      ·intro w' hSw
       first | (go_simp; done) | rfl
      refine tk (i := 9) (v := .bool true) rfl (by kernel_rfl) (fun _ _ _ h => h) (by rfl) ?_ (by assumption) ?_
      ·intro w' hSw
       first | (go_simp; done) | rfl
      refine tk (i := 10) (v := .pointer (some ⟨N0, 8, none⟩)) rfl (by kernel_rfl) (fun _ _ _ h => h) (by rfl) ?_ (by assumption) ?_
      ·intro w' hSw
       first | (go_simp; done) | rfl
      refine tk (i := 11) (v := .slice (some ⟨b, o, none⟩) n v.rc) rfl (by kernel_rfl) (fun _ _ _ h => h) (by rfl) ?_ (by assumption) ?_
      ·intro w' hSw
       have k8 : w'.cell? ⟨N0, 8, none⟩ = some (.slice (some ⟨b, o, none⟩) n v.rc) := ((HB.out.trans (hSw.mono HB.out.size)).cell (p := ⟨N0, 8, none⟩) (World.block_lt_of_cell? _ _ HK8.out)).trans HK8.out
       have kx : w'.cell? ⟨b, o + j, none⟩ = some (.int .i64 x) := ((HB.out.trans (hSw.mono HB.out.size)).cell (p := ⟨b, o + j, none⟩) (World.block_lt_of_cell? _ _ HCX.out)).trans HCX.out
       first | (go_simp; done) | rfl
      try simp only [Act.put, getElem_toArray, getElem_cons_succ, getElem_cons_zero, setIfInBounds_toArray, set_cons_zero, set_cons_succ]
      refine tk (i := 12) (v := .int .i64 j) rfl (by kernel_rfl) (fun _ _ _ h => h) (by rfl) ?_ (by assumption) ?_
      ·intro w' hSw
       first | (go_simp; done) | rfl
      refine tk (i := 13) (v := .pointer (some ⟨b, o + j, none⟩)) rfl (by kernel_rfl) (fun _ _ _ h => h) (by rfl) ?_ (by assumption) ?_
      ·intro w' hSw
       first | (go_simp; done) | rfl
      refine tk (i := 14) (v := .int .i64 x) rfl (by kernel_rfl) (fun _ _ _ h => h) (by rfl) ?_ (by assumption) ?_
      ·intro w' hSw
       have k8 : w'.cell? ⟨N0, 8, none⟩ = some (.slice (some ⟨b, o, none⟩) n v.rc) := ((HB.out.trans (hSw.mono HB.out.size)).cell (p := ⟨N0, 8, none⟩) (World.block_lt_of_cell? _ _ HK8.out)).trans HK8.out
       have kx : w'.cell? ⟨b, o + j, none⟩ = some (.int .i64 x) := ((HB.out.trans (hSw.mono HB.out.size)).cell (p := ⟨b, o + j, none⟩) (World.block_lt_of_cell? _ _ HCX.out)).trans HCX.out
       first | (go_simp; done) | rfl
      refine tk (i := 15) (v := .bool false) rfl (by kernel_rfl) (fun _ _ _ h => h) (by rfl) ?_ (by assumption) ?_
      ·intro w' hSw
       first | (go_simp; done) | rfl
      try simp only [Act.put, getElem_toArray, getElem_cons_succ, getElem_cons_zero, setIfInBounds_toArray, set_cons_zero, set_cons_succ]
      refine tk (i := 16) (v := .bool false) rfl (by kernel_rfl) (fun _ _ _ h => h) (by rfl) ?_ (by assumption) ?_
      ·intro w' hSw
       first | (go_simp; done) | rfl
      refine tk (i := 17) (v := .pointer (some ⟨N0, 8, none⟩)) rfl (by kernel_rfl) (fun _ _ _ h => h) (by rfl) ?_ (by assumption) ?_
      ·intro w' hSw
       first | (go_simp; done) | rfl
      refine tk (i := 18) (v := .slice (some ⟨b, o, none⟩) n v.rc) rfl (by kernel_rfl) (fun _ _ _ h => h) (by rfl) ?_ (by assumption) ?_
      ·intro w' hSw
       have k8 : w'.cell? ⟨N0, 8, none⟩ = some (.slice (some ⟨b, o, none⟩) n v.rc) := ((HB.out.trans (hSw.mono HB.out.size)).cell (p := ⟨N0, 8, none⟩) (World.block_lt_of_cell? _ _ HK8.out)).trans HK8.out
       have kx : w'.cell? ⟨b, o + j, none⟩ = some (.int .i64 x) := ((HB.out.trans (hSw.mono HB.out.size)).cell (p := ⟨b, o + j, none⟩) (World.block_lt_of_cell? _ _ HCX.out)).trans HCX.out
       first | (go_simp; done) | rfl
      refine tk (i := 19) (v := .int .i64 j) rfl (by kernel_rfl) (fun _ _ _ h => h) (by rfl) ?_ (by assumption) ?_
      ·intro w' hSw
       first | (go_simp; done) | rfl
      try simp only [Act.put, getElem_toArray, getElem_cons_succ, getElem_cons_zero, setIfInBounds_toArray, set_cons_zero, set_cons_succ]
      refine tk (i := 20) (v := .slice (some ⟨b, o, none⟩) j v.rc) rfl (by kernel_rfl) (fun _ _ _ h => h) (by rfl) ?_ (by assumption) ?_
      ·intro w' hSw
       first | (go_simp; done) | rfl
      refine tk (i := 21) (v := .pointer (some ⟨N0, 8, none⟩)) rfl (by kernel_rfl) (fun _ _ _ h => h) (by rfl) ?_ (by assumption) ?_
      ·intro w' hSw
       first | (go_simp; done) | rfl
      refine tk (i := 22) (v := .slice (some ⟨b, o, none⟩) n v.rc) rfl (by kernel_rfl) (fun _ _ _ h => h) (by rfl) ?_ (by assumption) ?_
      ·intro w' hSw
       have k8 : w'.cell? ⟨N0, 8, none⟩ = some (.slice (some ⟨b, o, none⟩) n v.rc) := ((HB.out.trans (hSw.mono HB.out.size)).cell (p := ⟨N0, 8, none⟩) (World.block_lt_of_cell? _ _ HK8.out)).trans HK8.out
       have kx : w'.cell? ⟨b, o + j, none⟩ = some (.int .i64 x) := ((HB.out.trans (hSw.mono HB.out.size)).cell (p := ⟨b, o + j, none⟩) (World.block_lt_of_cell? _ _ HCX.out)).trans HCX.out
       first | (go_simp; done) | rfl
      refine tk (i := 23) (v := .int .i64 j) rfl (by kernel_rfl) (fun _ _ _ h => h) (by rfl) ?_ (by assumption) ?_
      ·intro w' hSw
       first | (go_simp; done) | rfl
      try simp only [Act.put, getElem_toArray, getElem_cons_succ, getElem_cons_zero, setIfInBounds_toArray, set_cons_zero, set_cons_succ]
      refine tk (i := 24) (v := .pointer (some ⟨b, o + j, none⟩)) rfl (by kernel_rfl) (fun _ _ _ h => h) (by rfl) ?_ (by assumption) ?_
      ·intro w' hSw
       first | (go_simp; done) | rfl
      refine tk (i := 25) (v := .int .i64 x) rfl (by kernel_rfl) (fun _ _ _ h => h) (by rfl) ?_ (by assumption) ?_
      ·intro w' hSw
       have k8 : w'.cell? ⟨N0, 8, none⟩ = some (.slice (some ⟨b, o, none⟩) n v.rc) := ((HB.out.trans (hSw.mono HB.out.size)).cell (p := ⟨N0, 8, none⟩) (World.block_lt_of_cell? _ _ HK8.out)).trans HK8.out
       have kx : w'.cell? ⟨b, o + j, none⟩ = some (.int .i64 x) := ((HB.out.trans (hSw.mono HB.out.size)).cell (p := ⟨b, o + j, none⟩) (World.block_lt_of_cell? _ _ HCX.out)).trans HCX.out
       first | (go_simp; done) | rfl
      try simp only [Act.put, getElem_toArray, getElem_cons_succ, getElem_cons_zero, setIfInBounds_toArray, set_cons_zero, set_cons_succ]
      refine wpAnyH_ready (rs := [26]) (by kernel_rfl) (by simp) ?_
      refine AllReadyH.cons rfl (fun K hK => ?_) AllReadyH.nil
      have HK2 := Lib.hid hK
      clear hK
      try rw [if_pos (by rfl)]
      go_simp
      refine (HINS.out _ hini).mono ?_
      rintro e w9 ⟨rfl, rfl⟩
      refine HK2.out _ _ hini (fun hHeld => ?_)
      clear HK2
      try simp only [Act.put, getElem_toArray, getElem_cons_succ, getElem_cons_zero, setIfInBounds_toArray, set_cons_zero, set_cons_succ]
      clear K
      refine tk (i := 27) (v := .bool true) rfl (by kernel_rfl) (fun _ _ _ h => h) (by rfl) ?_ (by assumption) ?_
      ·intro w' hSw
       first | (go_simp; done) | rfl
      try simp only [Act.put, getElem_toArray, getElem_cons_succ, getElem_cons_zero, setIfInBounds_toArray, set_cons_zero, set_cons_succ]
      refine tk (i := 28) (v := .bool true) rfl (by kernel_rfl) (fun _ _ _ h => h) (by rfl) ?_ (by assumption) ?_
      ·intro w' hSw
       first | (go_simp; done) | rfl
      refine tk (i := 29) (v := .bool true) rfl (by kernel_rfl) (fun _ _ _ h => h) (by rfl) ?_ (by assumption) ?_
      ·intro w' hSw
       first | (go_simp; done) | rfl
      try simp only [Act.put, getElem_toArray, getElem_cons_succ, getElem_cons_zero, setIfInBounds_toArray, set_cons_zero, set_cons_succ]
      refine wpAnyH_done (by kernel_rfl) ?_ _
      clear hHeld
      go_wp2_with (fail)
      go_ret
      exact ⟨ret_bool HR.out.symm, below_then (below_then HB2.out HB.out HB2.out.size) hini (by have := HB2.out.size; have := HB.out.size; omega)⟩
    ·obtain rfl : j = h.rhos.length := by omega
     have HRO := Lib.hid (show nodeB h l = ((effOk h && typOk h) && resOk h) by
      rw [HQ.out, HQ2.out, decide_eq_true (fun i hi => HE.out i hi)]; rfl)
     go_upto_region 12 with (fail)
     have hbr := below_then HB2.out HB.out HB2.out.size
     have HBR := Lib.hid hbr; have HBXR := Lib.hid (HBX2.out.below HB.out)
     clear hbr
     have heff := fun (W : World) (hb : Below w.heap.size w W) => Effect.refMay_walk (c := v.ec) (HT.out.ok.eff.below hb).rd (by have := HSM.out.2.1.1; omega)
     have hef := effOk_eq h
     have HEFF := Lib.hid heff; have HEF := Lib.hid hef
     clear heff hef
     go_cut [100] (fun s100 wx => s100 = .bool (!effOk h) ∧ Hid (Below w.heap.size w wx) ∧ Hid (Box wx N0 h v l))
     case first =>
      go_wp2_with (fail)
      refine (in_ef wr h.h.k).mono ?_
      rintro e w3 ⟨rfl, hw3⟩
      have hb3 : Below wr.heap.size wr w3 := by rw [hw3]; exact box_new _
      have HB3 := Lib.hid (below_then HBR.out hb3 HBR.out.size); have HBX3 := Lib.hid (HBXR.out.below hb3)
      clear hw3 hb3
      have hbx := HBX3.out
      obtain ⟨b0, b1, b2, b3, b4, b5, b6, b7, b8, b9, b10, b11, b12, b13, b14, b15, b16, b17, b18⟩ := hbx
      clear b0 b1 b2 b3 b4 b5 b6 b7 b8 b10 b11 b12 b13 b14 b15 b16 b17 b18
      cases hC : [11, 13, 18].contains h.h.k
      ·by_cases h0 : 0 < h.e.length
       ·have g1 : decide ((0 : Int) < (h.e.length : Int)) = true := decide_eq_true (by omega)
        have g2 : decide (0 < h.e.length) = true := decide_eq_true h0
        have HR := Lib.hid (show effOk h = false by rw [HEF.out, hC, g2]; rfl)
        clear h0 hC
        go_wp2_with (fail)
        go_meet
        exact ⟨by rw [HR.out]; first | rfl | (rw [g2]; rfl), HB3, HBX3⟩
       ·have g1 : decide ((0 : Int) < (h.e.length : Int)) = false := decide_eq_false (by omega)
        have g2 : decide (0 < h.e.length) = false := decide_eq_false h0
        have he0 : h.e = [] := List.eq_nil_of_length_eq_zero (by omega)
        have hm : decide (h.e = ofA h.e) = true := by rw [he0]; rfl
        have HR := Lib.hid (show effOk h = true by rw [HEF.out, hC, g2]; rfl)
        have HM := Lib.hid hm
        clear h0 hC he0 hm
        go_wp2_with (fail)
        refine (HEFF.out w3 HB3.out).mono ?_
        rintro e w4 ⟨rfl, hb4⟩
        rw [HM.out]
        have HB4 := Lib.hid (below_then HB3.out hb4 HB3.out.size); have HBX4 := Lib.hid (HBX3.out.below hb4)
        clear hb4 b9
        go_wp2_with (fail)
        go_meet
        exact ⟨by rw [HR.out]; rfl, HB4, HBX4⟩
      ·have HR := Lib.hid (show effOk h = decide (h.e = ofA h.e) by rw [HEF.out, hC]; rfl)
       clear hC
       go_wp2_with (fail)
       refine (HEFF.out w3 HB3.out).mono ?_
       rintro e w4 ⟨rfl, hb4⟩
       have HB4 := Lib.hid (below_then HB3.out hb4 HB3.out.size); have HBX4 := Lib.hid (HBX3.out.below hb4)
       clear hb4 b9
       generalize decide (h.e = ofA h.e) = X at *
       go_wp2_with (fail)
       go_meet
       exact ⟨by rw [HR.out], HB4, HBX4⟩
     case rest =>
      clear HBR HBXR HB HE HB8 HRI
      obtain ⟨rfl, HB3, HBX3⟩ := hcut
      clear HB2 HBX2
      cases hE : effOk h
      ·have HR := Lib.hid (show nodeB h l = false by rw [HRO.out, hE]; rfl)
       clear hE
       go_wp2_with (fail)
       go_ret
       exact ⟨ret_bool HR.out.symm, HB3.out⟩
      have HRE := Lib.hid (show nodeB h l = (typOk h && resOk h) by rw [HRO.out, hE]; rfl)
      clear hE HRO
      have hcap1 := Rt.cap63 HT.out.ok.ty
      have hcap2 := Rt.cap63 HT.out.ok.re
      have hrt1 := fun (W : World) (hb : Below w.heap.size w W) => Rt.refMay_walk (Rt.wt h.ty) h.ty _ _ _ _ _ _ _ W (Nat.le_refl _) (HT.out.ok.ty.below hb) HSM.out.2.2.1
      have hrt2 := fun (W : World) (hb : Below w.heap.size w W) => Rt.refMay_walk (Rt.wt h.re) h.re _ _ _ _ _ _ _ W (Nat.le_refl _) (HT.out.ok.re.below hb) HSM.out.2.2.2
      have hpl1 := fun W => plain_walk h.ty v.tea v.tec v.tka v.tkc W hcap1.1 hcap1.2
      have hpl2 := fun W => plain_walk h.re v.sea v.sec v.ska v.skc W hcap2.1 hcap2.2
      have hty := typOk_eq h
      have hre : resOk h = if h.h.k = 13 then Rt.mayT h.re else plainB h.re := rfl
      have HRT1 := Lib.hid hrt1; have HRT2 := Lib.hid hrt2; have HPL1 := Lib.hid hpl1; have HPL2 := Lib.hid hpl2; have HTY := Lib.hid hty; have HRES := Lib.hid hre
      clear hrt1 hrt2 hpl1 hpl2 hty hre hcap1 hcap2
      go_upto_region 14 with (fail)
      go_cut [121] (fun s121 wx => s121 = .bool (!typOk h) ∧ Hid (Below w.heap.size w wx) ∧ Hid (Box wx N0 h v l))
      case first =>
       go_wp2_with (fail)
       refine (in_ty wc h.h.k).mono ?_
       rintro e w3 ⟨rfl, hw3⟩
       have hb3 : Below wc.heap.size wc w3 := by rw [hw3]; exact box_new _
       have HB4 := Lib.hid (below_then HB3.out hb3 HB3.out.size); have HBX4 := Lib.hid (HBX3.out.below hb3)
       clear hw3 hb3
       have hbx := HBX4.out
       obtain ⟨b0, b1, b2, b3, b4, b5, b6, b7, b8, b9, b10, b11, b12, b13, b14, b15, b16, b17, b18⟩ := hbx
       clear b0 b1 b2 b3 b4 b5 b6 b7 b8 b9 b14 b15 b16 b17 b18
       cases hC : [11, 13, 15].contains h.h.k
       ·have HR := Lib.hid (show typOk h = plainB h.ty by rw [HTY.out, hC]; rfl)
        have HC := Lib.hid hC
        clear hC
        go_wp2_with (fail)
        refine (in_ty w3 h.h.k).mono ?_
        rintro e w4 ⟨rfl, hw4⟩
        have hb4 : Below w3.heap.size w3 w4 := by rw [hw4]; exact box_new _
        have HB5 := Lib.hid (below_then HB4.out hb4 HB4.out.size); have HBX5 := Lib.hid (HBX4.out.below hb4)
        clear hw4 hb4 b10 b11 b12 b13
        have hbx := HBX5.out
        obtain ⟨b0, b1, b2, b3, b4, b5, b6, b7, b8, b9, b10, b11, b12, b13, b14, b15, b16, b17, b18⟩ := hbx
        clear b0 b1 b2 b3 b4 b5 b6 b7 b8 b9 b14 b15 b16 b17 b18
        rw [HC.out]
        go_wp2_with (fail)
        refine (HPL1.out w4).mono ?_
        rintro e w5 ⟨rfl, hb5⟩
        have HB6 := Lib.hid (below_then HB5.out hb5 HB5.out.size); have HBX6 := Lib.hid (HBX5.out.below hb5)
        clear hb5 b10 b11 b12 b13
        generalize plainB h.ty = X at *
        go_wp2_with (fail)
        go_meet
        exact ⟨by rw [HR.out], HB6, HBX6⟩
       ·have HR := Lib.hid (show typOk h = Rt.mayT h.ty by rw [HTY.out, hC]; rfl)
        have HC := Lib.hid hC
        clear hC
        go_wp2_with (fail)
        refine (HRT1.out w3 HB4.out).mono ?_
        rintro e w4 ⟨rfl, hb4⟩
        have HB5 := Lib.hid (below_then HB4.out hb4 HB4.out.size); have HBX5 := Lib.hid (HBX4.out.below hb4)
        clear hb4 b10 b11 b12 b13
        generalize Rt.mayT h.ty = X at *
        cases X
        ·go_wp2_with (fail)
         go_meet
         exact ⟨by rw [HR.out]; rfl, HB5, HBX5⟩
        ·go_wp2_with (fail)
         refine (in_ty w4 h.h.k).mono ?_
         rintro e w5 ⟨rfl, hw5⟩
         have hb5 : Below w4.heap.size w4 w5 := by rw [hw5]; exact box_new _
         have HB6 := Lib.hid (below_then HB5.out hb5 HB5.out.size); have HBX6 := Lib.hid (HBX5.out.below hb5)
         clear hw5 hb5
         rw [HC.out]
         go_wp2_with (fail)
         go_meet
         exact ⟨by rw [HR.out]; rfl, HB6, HBX6⟩
      case rest =>
       clear HB3 HBX3
       obtain ⟨rfl, HB4, HBX4⟩ := hcut
       cases hE : typOk h
       ·have HR := Lib.hid (show nodeB h l = false by rw [HRE.out, hE]; rfl)
        clear hE
        go_wp2_with (fail)
        go_ret
        exact ⟨ret_bool HR.out.symm, HB4.out⟩
       have HRF := Lib.hid (show nodeB h l = resOk h by rw [HRE.out, hE]; rfl)
       clear hE HRE
       have hbx := HBX4.out
       obtain ⟨b0, b1, b2, b3, b4, b5, b6, b7, b8, b9, b10, b11, b12, b13, b14, b15, b16, b17, b18⟩ := hbx
       clear b0 b1 b2 b3 b4 b5 b6 b7 b8 b9 b10 b11 b12 b13 b18
       by_cases h13 : h.h.k = 13
       ·have e13 : (h.h.k == 13) = true := by simpa using h13
        have e13' : (h.h.k != 13) = false := by rw [bne, e13]; rfl
        have HR := Lib.hid (show nodeB h l = Rt.mayT h.re by rw [HRF.out, HRES.out, if_pos h13])
        clear h13
        go_wp2_with (fail)
        refine (HRT2.out wc HB4.out).mono ?_
        rintro e w4 ⟨rfl, hb4⟩
        have HB5 := Lib.hid (below_then HB4.out hb4 HB4.out.size)
        clear hb4 b14 b15 b16 b17
        generalize Rt.mayT h.re = X at *
        cases X
        all_goals
         go_wp2_with (fail)
         go_ret
         exact ⟨ret_bool HR.out.symm, HB5.out⟩
       ·have e13 : (h.h.k == 13) = false := by simpa using h13
        have e13' : (h.h.k != 13) = true := by rw [bne, e13]; rfl
        have HR := Lib.hid (show nodeB h l = plainB h.re by rw [HRF.out, HRES.out, if_neg h13])
        clear h13
        go_wp2_with (fail)
        refine (HPL2.out wc).mono ?_
        rintro e w4 ⟨rfl, hb4⟩
        have HB5 := Lib.hid (below_then HB4.out hb4 HB4.out.size)
        clear hb4 b14 b15 b16 b17
        generalize plainB h.re = X at *
        go_wp2_with (fail)
        go_ret
        exact ⟨ret_bool HR.out.symm, HB5.out⟩
end Aterm
end Go.Proofs.YtkfkpjngiffamaaGreatDoor
