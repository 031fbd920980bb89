import Derived.Test.YtkfkpjngiffamaaGreatDoorGC01
import Derived.Deep.DeepCutAuto
import Derived.Deep.Quiet
import Derived.BigQuiet
namespace Go.Proofs.YtkfkpjngiffamaaGreatDoor
open Go.RowKit
set_option linter.unusedVariables false
namespace Term
open Words (nameB exnB)

theorem quiet_run {P : Program} {C : World → Prop} {a : Act} {o : Oper} {K : Act → Prop} (u : Value) (h : ∀ w, C w → (execOp a.eval o).run P w = .ok (.value u) w) (hk : K (a.put o.dst u)) : o.quiet P a C K :=
 ⟨u, fun w hw => by unfold Oper.quietAt; rw [h w hw]; exact ⟨rfl, rfl⟩, hk⟩
theorem quiet_call {P : Program} {C : World → Prop} {a : Act} {o : Oper} {K : Act → Prop} (v : Value) (f : FuncId) (args : Array Value) (hr : ∀ w, (execOp a.eval o).run P w = .ok (.enter f args) w) (h : ∀ w, C w → Calls P f args w fun e w' => e = .returned v ∧ C w') (hk : K (a.put o.dst v)) : o.quiet P a C K :=
 ⟨v, fun w hw => by unfold Oper.quietAt; rw [hr w]; exact ⟨rfl, h w hw⟩, hk⟩
theorem region_quiet_lit {P : Program} {C : World → Prop} {id : Nat} {Q : Exit → Act → World → Prop} {a : Act} {w : World} {l : List Oper} (hm : P.follows .mixedOrders = true) (hB : Region.lexB .any l.toArray = true) (hC : C w.drew)
  (h : wpQuiet P l.toArray C (fun a' => ∀ w', C w' → Q .normal a' w') l a) : (Code.region id l.toArray true).wp P Q a w :=
 wp_region_quiet (C := C) hm hB hC (by simpa using h)

theorem boxq {w : World} {cs : Array Value} {t : TypeId} (q j : Nat) {v : Value} (hv : cs[j]? = some v) : ((w.alloc (.cells cs t)).drewN q).cell? ⟨w.heap.size, j, none⟩ = some v := by
 show (w.alloc (.cells cs t)).cell? ⟨w.heap.size, j, none⟩ = some v
 rw [World.cell?_alloc_mark, hv]
theorem val_bool {a b : Bool} (h : a = b) : Value.bool a = .bool b := by rw [h]

set_option maxRecDepth 100000 in
set_option maxHeartbeats 12800000 in
theorem node_fits (k op pl nn : Int) (nm ar ex : ByteArray) (p : Option Addr) (l c : Nat) (w : World) (hk : 0 ≤ k ∧ k ≤ 255) (hop : 0 ≤ op ∧ op ≤ 255) (hl : l ≤ 9223372036854775807) (hb : kidsN k = l) (hpl : 0 ≤ pl)
  (pre : ((k == 9) = true ∧ (k != 9) = false ∧ (k != 1) = true ∧ 1 ≤ op ∧ op ≤ 5 ∧ nn = 0) ∨ ((k == 9) = false ∧ (k != 9) = true ∧ op = 0 ∧ (k != 1) = false ∧ 0 ≤ nn ∧ nn ≤ 2147483647) ∨ ((k == 9) = false ∧ (k != 9) = true ∧ op = 0 ∧ (k != 1) = true ∧ nn = 0))
  (hs4 : nm.size ≤ maxLen) (hs5 : ar.size ≤ maxLen) (hs6 : ex.size ≤ maxLen) :
  Calls Tryz.prog 56 #[.agg #[.int .u8 k, .int .u8 op, .int .i64 pl, .int .i64 nn, .string nm, .string ar, .string ex, .slice p l c]] w fun e w' => e = .returned (.bool (fitsB (nameF k) nm (nameB nm) && fitsB (argF k) ar (nameB ar) && fitsB (exnF k) ex (exnB ex))) ∧ Below w.heap.size w w' := by
 have hbox : ∀ O : Obj, ∀ q, Below w.heap.size w ((w.alloc O).drewN q) := fun O q => ⟨rfl, rfl, rfl, by simp [World.drewN], fun i hi => Below.heap_alloc _ _ _ hi⟩
 have HBOX := Lib.hid hbox
 have hkc := fun W => refKids_walk k hk.1 hk.2 W
 rw [hb] at hkc
 have HKC := Lib.hid hkc
 have n1 : ((l : Int) != (l : Int)) = false := by simp
 have hd : decide ((l : Int) < 0) = false := by simp
 have hnk : ∀ v : Int, (k = v → (k == v) = true) ∧ (k ≠ v → (k == v) = false) := fun v => ⟨fun h => by simpa using h, fun h => by simpa using h⟩
 have HNK := Lib.hid hnk
 have hstay : ∀ W w' : World, (W.cell? ⟨w.heap.size, 4, none⟩ = some (.string nm) ∧ W.cell? ⟨w.heap.size, 5, none⟩ = some (.string ar) ∧ W.cell? ⟨w.heap.size, 6, none⟩ = some (.string ex) ∧ Below w.heap.size w W) → Below W.heap.size W w' → (w'.cell? ⟨w.heap.size, 4, none⟩ = some (.string nm) ∧ w'.cell? ⟨w.heap.size, 5, none⟩ = some (.string ar) ∧ w'.cell? ⟨w.heap.size, 6, none⟩ = some (.string ex) ∧ Below w.heap.size w w') := fun W w' ⟨d4, d5, d6, dB⟩ hb => by
  have hl := World.block_lt_of_cell? W _ d4
  exact ⟨(hb.cell (p := ⟨w.heap.size, 4, none⟩) hl).trans d4, (hb.cell (p := ⟨w.heap.size, 5, none⟩) hl).trans d5, (hb.cell (p := ⟨w.heap.size, 6, none⟩) hl).trans d6, dB.trans (hb.mono dB.size)⟩
 have hname : ∀ (s : ByteArray) (W : World), s.size ≤ maxLen → (W.cell? ⟨w.heap.size, 4, none⟩ = some (.string nm) ∧ W.cell? ⟨w.heap.size, 5, none⟩ = some (.string ar) ∧ W.cell? ⟨w.heap.size, 6, none⟩ = some (.string ex) ∧ Below w.heap.size w W) → Calls Tryz.prog 55 #[.string s] W fun e w' => e = .returned (.bool (nameB s)) ∧ w'.cell? ⟨w.heap.size, 4, none⟩ = some (.string nm) ∧ w'.cell? ⟨w.heap.size, 5, none⟩ = some (.string ar) ∧ w'.cell? ⟨w.heap.size, 6, none⟩ = some (.string ex) ∧ Below w.heap.size w w' := fun s W hs hS =>
  (Words.refName_walk s W hs).mono fun e w' ⟨he, hb⟩ => ⟨he, hstay W w' hS hb⟩
 have hexn : ∀ (s : ByteArray) (W : World), s.size ≤ maxLen → (W.cell? ⟨w.heap.size, 4, none⟩ = some (.string nm) ∧ W.cell? ⟨w.heap.size, 5, none⟩ = some (.string ar) ∧ W.cell? ⟨w.heap.size, 6, none⟩ = some (.string ex) ∧ Below w.heap.size w W) → Calls Tryz.prog 73 #[.string s] W fun e w' => e = .returned (.bool (exnB s)) ∧ w'.cell? ⟨w.heap.size, 4, none⟩ = some (.string nm) ∧ w'.cell? ⟨w.heap.size, 5, none⟩ = some (.string ar) ∧ w'.cell? ⟨w.heap.size, 6, none⟩ = some (.string ex) ∧ Below w.heap.size w w' := fun s W hs hS =>
  (Words.refExn_walk s W hs).mono fun e w' ⟨he, hb⟩ => ⟨he, hstay W w' hS hb⟩
 have HNAME := Lib.hid hname; have HEXN := Lib.hid hexn
 clear hstay hname hexn
 have H4 := Lib.hid hs4; have H5 := Lib.hid hs5; have H6 := Lib.hid hs6
 clear hbox hkc hb hnk hs4 hs5 hs6
 rcases pre with ⟨t1, t2, t3, o1, o5, rfl⟩ | ⟨t1, t2, rfl, t3, a0, a1⟩ | ⟨t1, t2, rfl, t3, rfl⟩
 all_goals
  go_enter Tryz.func56, Tryz.ntmps56
  go_wp2_with (fail)
  go_quiet ((go_at_call 76; exact Calls.quiet_of_same ((HKC.out _).mono fun _ _ h => ⟨h.1, h.2.symm⟩)))
  go_upto_region 8 with (fail)
  go_cut [4] (fun s4 wx => s4 = .bool (nameF k) ∧ wx.cell? ⟨w.heap.size, 4, none⟩ = some (.string nm) ∧ wx.cell? ⟨w.heap.size, 5, none⟩ = some (.string ar) ∧ wx.cell? ⟨w.heap.size, 6, none⟩ = some (.string ex) ∧ Below w.heap.size w wx)
  case first =>
   by_cases k2 : k = 2
   ·have e2 := (HNK.out 2).1 k2
    have hf : nameF k = true := by unfold nameF; simp [k2]
    have HF := Lib.hid hf; have HK2 := Lib.hid k2
    clear hf k2
    go_wp2_with (fail)
    go_meet
    exact ⟨val_bool HF.out.symm, boxq _ 4 rfl, boxq _ 5 rfl, boxq _ 6 rfl, HBOX.out _ _⟩
   have e2 := (HNK.out 2).2 k2
   by_cases k12 : k = 12
   ·have e12 := (HNK.out 12).1 k12
    have hf : nameF k = true := by unfold nameF; simp [k12]
    have HF := Lib.hid hf; have HK12 := Lib.hid k12
    clear hf k12
    go_wp2_with (fail)
    go_meet
    exact ⟨val_bool HF.out.symm, boxq _ 4 rfl, boxq _ 5 rfl, boxq _ 6 rfl, HBOX.out _ _⟩
   have e12 := (HNK.out 12).2 k12
   by_cases k13 : k = 13
   ·have e13 := (HNK.out 13).1 k13
    have hf : nameF k = true := by unfold nameF; simp [k13]
    have HF := Lib.hid hf; have HK13 := Lib.hid k13
    clear hf k13
    go_wp2_with (fail)
    go_meet
    exact ⟨val_bool HF.out.symm, boxq _ 4 rfl, boxq _ 5 rfl, boxq _ 6 rfl, HBOX.out _ _⟩
   have e13 := (HNK.out 13).2 k13
   have hf : nameF k = false := by unfold nameF; simp [k2, k12, k13]
   have HF := Lib.hid hf; have HK2 := Lib.hid k2; have HK12 := Lib.hid k12; have HK13 := Lib.hid k13
   clear hf k2 k12 k13
   go_wp2_with (fail)
   go_meet
   exact ⟨val_bool HF.out.symm, boxq _ 4 rfl, boxq _ 5 rfl, boxq _ 6 rfl, HBOX.out _ _⟩
  case rest =>
   obtain ⟨rfl, c4, c5, c6, hw⟩ := hcut
   have HW := Lib.hid hw
   clear hw
   go_upto_region 9 with (fail)
   go_cut [5] (fun s5 wx => s5 = .bool (argF k) ∧ wx = wc)
   case first =>
    by_cases k11 : k = 11
    ·have e11 := (HNK.out 11).1 k11
     have hf : argF k = true := by unfold argF; simp [k11]
     have HF := Lib.hid hf; have HK11 := Lib.hid k11
     clear hf k11
     go_wp2_with (fail)
     go_meet
     exact ⟨val_bool HF.out.symm, rfl⟩
    have e11 := (HNK.out 11).2 k11
    by_cases k13 : k = 13
    ·have e13 := (HNK.out 13).1 k13
     have hf : argF k = true := by unfold argF; simp [k13]
     have HF := Lib.hid hf; have HK13 := Lib.hid k13
     clear hf k13
     go_wp2_with (fail)
     go_meet
     exact ⟨val_bool HF.out.symm, rfl⟩
    have e13 := (HNK.out 13).2 k13
    by_cases k16 : k = 16
    ·have e16 := (HNK.out 16).1 k16
     have hf : argF k = true := by unfold argF; simp [k16]
     have HF := Lib.hid hf; have HK16 := Lib.hid k16
     clear hf k16
     go_wp2_with (fail)
     go_meet
     exact ⟨val_bool HF.out.symm, rfl⟩
    have e16 := (HNK.out 16).2 k16
    have hf : argF k = false := by unfold argF; simp [k11, k13, k16]
    have HF := Lib.hid hf; have HK11 := Lib.hid k11; have HK13 := Lib.hid k13; have HK16 := Lib.hid k16
    clear hf k11 k13 k16
    go_wp2_with (fail)
    go_meet
    exact ⟨val_bool HF.out.symm, rfl⟩
   case rest =>
    obtain ⟨rfl, rfl⟩ := hcut
    go_upto_region 10 with (fail)
    go_cut [6] (fun s6 wx => s6 = .bool (exnF k) ∧ wx = wc)
    case first =>
     by_cases k15 : k = 15
     ·have e15 := (HNK.out 15).1 k15
      have hf : exnF k = true := by unfold exnF; simp [k15]
      have HF := Lib.hid hf; have HK15 := Lib.hid k15
      clear hf k15
      go_wp2_with (fail)
      go_meet
      exact ⟨val_bool HF.out.symm, rfl⟩
     have e15 := (HNK.out 15).2 k15
     by_cases k16 : k = 16
     ·have e16 := (HNK.out 16).1 k16
      have hf : exnF k = true := by unfold exnF; simp [k16]
      have HF := Lib.hid hf; have HK16 := Lib.hid k16
      clear hf k16
      go_wp2_with (fail)
      go_meet
      exact ⟨val_bool HF.out.symm, rfl⟩
     have e16 := (HNK.out 16).2 k16
     have hf : exnF k = false := by unfold exnF; simp [k15, k16]
     have HF := Lib.hid hf; have HK15 := Lib.hid k15; have HK16 := Lib.hid k16
     clear hf k15 k16
     go_wp2_with (fail)
     go_meet
     exact ⟨val_bool HF.out.symm, rfl⟩
    case rest =>
     obtain ⟨rfl, rfl⟩ := hcut
     have hw := HW.out
     have hf1 := fun W => fits_walk (nameF k) nm (nameB nm) W
     have hf2 := fun W => fits_walk (argF k) ar (nameB ar) W
     have hf3 := fun W => fits_walk (exnF k) ex (exnB ex) W
     have F3 := Lib.hid hf3
     go_wp2_with (fail)
     refine region_quiet_lit (C := fun W : World => W.cell? ⟨w.heap.size, 4, none⟩ = some (.string nm) ∧ W.cell? ⟨w.heap.size, 5, none⟩ = some (.string ar) ∧ W.cell? ⟨w.heap.size, 6, none⟩ = some (.string ex) ∧ Below w.heap.size w W) (by kernel_rfl) (by kernel_rfl) ⟨c4, c5, c6, hw.drew⟩ ?_
     clear c4 c5 c6 hf3
     cases h1 : fitsB (nameF k) nm (nameB nm)
     ·rw [h1] at hf1
      have F1 := Lib.hid hf1; have H1 := Lib.hid h1
      clear hf1 hf2 h1
      (go_big_quiet_want; refine quiet_run (.bool (nameF k)) (fun W hC => ?_) ?_; (obtain ⟨d4, d5, d6, dB⟩ := hC; go_simp); simp only [Act.put, List.setIfInBounds_toArray, List.set_cons_zero, List.set_cons_succ]; go_big_quiet_on)
      (go_big_quiet_want; refine quiet_run (.pointer (some ⟨w.heap.size, 0, none⟩)) (fun W hC => ?_) ?_; (obtain ⟨d4, d5, d6, dB⟩ := hC; go_simp); simp only [Act.put, List.setIfInBounds_toArray, List.set_cons_zero, List.set_cons_succ]; go_big_quiet_on)
      (go_big_quiet_want; refine quiet_run (.pointer (some ⟨w.heap.size, 4, none⟩)) (fun W hC => ?_) ?_; (obtain ⟨d4, d5, d6, dB⟩ := hC; go_simp); simp only [Act.put, List.setIfInBounds_toArray, List.set_cons_zero, List.set_cons_succ]; go_big_quiet_on)
      (go_big_quiet_want; refine quiet_run (.string nm) (fun W hC => ?_) ?_; (obtain ⟨d4, d5, d6, dB⟩ := hC; go_simp); simp only [Act.put, List.setIfInBounds_toArray, List.set_cons_zero, List.set_cons_succ]; go_big_quiet_on)
      (go_big_quiet_want; refine quiet_run (.pointer (some ⟨w.heap.size, 0, none⟩)) (fun W hC => ?_) ?_; (obtain ⟨d4, d5, d6, dB⟩ := hC; go_simp); simp only [Act.put, List.setIfInBounds_toArray, List.set_cons_zero, List.set_cons_succ]; go_big_quiet_on)
      (go_big_quiet_want; refine quiet_run (.pointer (some ⟨w.heap.size, 4, none⟩)) (fun W hC => ?_) ?_; (obtain ⟨d4, d5, d6, dB⟩ := hC; go_simp); simp only [Act.put, List.setIfInBounds_toArray, List.set_cons_zero, List.set_cons_succ]; go_big_quiet_on)
      (go_big_quiet_want; refine quiet_run (.string nm) (fun W hC => ?_) ?_; (obtain ⟨d4, d5, d6, dB⟩ := hC; go_simp); simp only [Act.put, List.setIfInBounds_toArray, List.set_cons_zero, List.set_cons_succ]; go_big_quiet_on)
      (go_big_quiet_want; refine quiet_call (.bool (nameB nm)) 55 #[.string nm] (fun W => ?_) (fun W hC => HNAME.out _ W H4.out hC) ?_; go_simp; simp only [Act.put, List.setIfInBounds_toArray, List.set_cons_zero, List.set_cons_succ]; go_big_quiet_on)
      (go_big_quiet_want; refine quiet_call (.bool false) 77 #[.bool (nameF k), .string nm, .bool (nameB nm)] (fun W => ?_) (fun W hC => (F1.out W).mono (fun e w' h => ⟨h.1, h.2 ▸ hC⟩)) ?_; go_simp; simp only [Act.put, List.setIfInBounds_toArray, List.set_cons_zero, List.set_cons_succ]; go_big_quiet_on)
      (go_big_quiet_want; refine quiet_run (.bool false) (fun W hC => ?_) ?_; (obtain ⟨d4, d5, d6, dB⟩ := hC; go_simp); simp only [Act.put, List.setIfInBounds_toArray, List.set_cons_zero, List.set_cons_succ]; go_big_quiet_on)
      go_big_quiet_skip
      go_big_quiet_skip
      go_big_quiet_skip
      go_big_quiet_skip
      go_big_quiet_skip
      go_big_quiet_skip
      go_big_quiet_skip
      go_big_quiet_skip
      go_big_quiet_skip
      (go_big_quiet_want; refine quiet_run (.bool false) (fun W hC => ?_) ?_; (obtain ⟨d4, d5, d6, dB⟩ := hC; go_simp); simp only [Act.put, List.setIfInBounds_toArray, List.set_cons_zero, List.set_cons_succ]; go_big_quiet_on)
      (go_big_quiet_want; refine quiet_run (.bool false) (fun W hC => ?_) ?_; (obtain ⟨d4, d5, d6, dB⟩ := hC; go_simp); simp only [Act.put, List.setIfInBounds_toArray, List.set_cons_zero, List.set_cons_succ]; go_big_quiet_on)
      go_big_quiet_skip
      go_big_quiet_skip
      go_big_quiet_skip
      go_big_quiet_skip
      go_big_quiet_skip
      go_big_quiet_skip
      go_big_quiet_skip
      go_big_quiet_skip
      go_big_quiet_skip
      (go_big_quiet_want; refine quiet_run (.bool false) (fun W hC => ?_) ?_; (obtain ⟨d4, d5, d6, dB⟩ := hC; go_simp); simp only [Act.put, List.setIfInBounds_toArray, List.set_cons_zero, List.set_cons_succ]; go_big_quiet_on)
      (go_big_quiet_want; refine quiet_run (.bool false) (fun W hC => ?_) ?_; (obtain ⟨d4, d5, d6, dB⟩ := hC; go_simp); simp only [Act.put, List.setIfInBounds_toArray, List.set_cons_zero, List.set_cons_succ]; go_big_quiet_on)
      refine wpQuiet_nil ?_
      rintro w2 ⟨d4, d5, d6, dB⟩
      have DB := Lib.hid dB; clear d4 d5 d6 dB
      go_wp2_with (fail)
      go_ret
      exact ⟨ret_bool (by simp [H1.out]), DB.out⟩
     ·rw [h1] at hf1
      have F1 := Lib.hid hf1; have H1 := Lib.hid h1
      clear hf1 h1
      cases h2 : fitsB (argF k) ar (nameB ar)
      ·rw [h2] at hf2
       have F2 := Lib.hid hf2; have H2 := Lib.hid h2
       clear hf2 h2
       (go_big_quiet_want; refine quiet_run (.bool (nameF k)) (fun W hC => ?_) ?_; (obtain ⟨d4, d5, d6, dB⟩ := hC; go_simp); simp only [Act.put, List.setIfInBounds_toArray, List.set_cons_zero, List.set_cons_succ]; go_big_quiet_on)
       (go_big_quiet_want; refine quiet_run (.pointer (some ⟨w.heap.size, 0, none⟩)) (fun W hC => ?_) ?_; (obtain ⟨d4, d5, d6, dB⟩ := hC; go_simp); simp only [Act.put, List.setIfInBounds_toArray, List.set_cons_zero, List.set_cons_succ]; go_big_quiet_on)
       (go_big_quiet_want; refine quiet_run (.pointer (some ⟨w.heap.size, 4, none⟩)) (fun W hC => ?_) ?_; (obtain ⟨d4, d5, d6, dB⟩ := hC; go_simp); simp only [Act.put, List.setIfInBounds_toArray, List.set_cons_zero, List.set_cons_succ]; go_big_quiet_on)
       (go_big_quiet_want; refine quiet_run (.string nm) (fun W hC => ?_) ?_; (obtain ⟨d4, d5, d6, dB⟩ := hC; go_simp); simp only [Act.put, List.setIfInBounds_toArray, List.set_cons_zero, List.set_cons_succ]; go_big_quiet_on)
       (go_big_quiet_want; refine quiet_run (.pointer (some ⟨w.heap.size, 0, none⟩)) (fun W hC => ?_) ?_; (obtain ⟨d4, d5, d6, dB⟩ := hC; go_simp); simp only [Act.put, List.setIfInBounds_toArray, List.set_cons_zero, List.set_cons_succ]; go_big_quiet_on)
       (go_big_quiet_want; refine quiet_run (.pointer (some ⟨w.heap.size, 4, none⟩)) (fun W hC => ?_) ?_; (obtain ⟨d4, d5, d6, dB⟩ := hC; go_simp); simp only [Act.put, List.setIfInBounds_toArray, List.set_cons_zero, List.set_cons_succ]; go_big_quiet_on)
       (go_big_quiet_want; refine quiet_run (.string nm) (fun W hC => ?_) ?_; (obtain ⟨d4, d5, d6, dB⟩ := hC; go_simp); simp only [Act.put, List.setIfInBounds_toArray, List.set_cons_zero, List.set_cons_succ]; go_big_quiet_on)
       (go_big_quiet_want; refine quiet_call (.bool (nameB nm)) 55 #[.string nm] (fun W => ?_) (fun W hC => HNAME.out _ W H4.out hC) ?_; go_simp; simp only [Act.put, List.setIfInBounds_toArray, List.set_cons_zero, List.set_cons_succ]; go_big_quiet_on)
       (go_big_quiet_want; refine quiet_call (.bool true) 77 #[.bool (nameF k), .string nm, .bool (nameB nm)] (fun W => ?_) (fun W hC => (F1.out W).mono (fun e w' h => ⟨h.1, h.2 ▸ hC⟩)) ?_; go_simp; simp only [Act.put, List.setIfInBounds_toArray, List.set_cons_zero, List.set_cons_succ]; go_big_quiet_on)
       (go_big_quiet_want; refine quiet_run (.bool true) (fun W hC => ?_) ?_; (obtain ⟨d4, d5, d6, dB⟩ := hC; go_simp); simp only [Act.put, List.setIfInBounds_toArray, List.set_cons_zero, List.set_cons_succ]; go_big_quiet_on)
       (go_big_quiet_want; refine quiet_run (.bool (argF k)) (fun W hC => ?_) ?_; (obtain ⟨d4, d5, d6, dB⟩ := hC; go_simp); simp only [Act.put, List.setIfInBounds_toArray, List.set_cons_zero, List.set_cons_succ]; go_big_quiet_on)
       (go_big_quiet_want; refine quiet_run (.pointer (some ⟨w.heap.size, 0, none⟩)) (fun W hC => ?_) ?_; (obtain ⟨d4, d5, d6, dB⟩ := hC; go_simp); simp only [Act.put, List.setIfInBounds_toArray, List.set_cons_zero, List.set_cons_succ]; go_big_quiet_on)
       (go_big_quiet_want; refine quiet_run (.pointer (some ⟨w.heap.size, 5, none⟩)) (fun W hC => ?_) ?_; (obtain ⟨d4, d5, d6, dB⟩ := hC; go_simp); simp only [Act.put, List.setIfInBounds_toArray, List.set_cons_zero, List.set_cons_succ]; go_big_quiet_on)
       (go_big_quiet_want; refine quiet_run (.string ar) (fun W hC => ?_) ?_; (obtain ⟨d4, d5, d6, dB⟩ := hC; go_simp); simp only [Act.put, List.setIfInBounds_toArray, List.set_cons_zero, List.set_cons_succ]; go_big_quiet_on)
       (go_big_quiet_want; refine quiet_run (.pointer (some ⟨w.heap.size, 0, none⟩)) (fun W hC => ?_) ?_; (obtain ⟨d4, d5, d6, dB⟩ := hC; go_simp); simp only [Act.put, List.setIfInBounds_toArray, List.set_cons_zero, List.set_cons_succ]; go_big_quiet_on)
       (go_big_quiet_want; refine quiet_run (.pointer (some ⟨w.heap.size, 5, none⟩)) (fun W hC => ?_) ?_; (obtain ⟨d4, d5, d6, dB⟩ := hC; go_simp); simp only [Act.put, List.setIfInBounds_toArray, List.set_cons_zero, List.set_cons_succ]; go_big_quiet_on)
       (go_big_quiet_want; refine quiet_run (.string ar) (fun W hC => ?_) ?_; (obtain ⟨d4, d5, d6, dB⟩ := hC; go_simp); simp only [Act.put, List.setIfInBounds_toArray, List.set_cons_zero, List.set_cons_succ]; go_big_quiet_on)
       (go_big_quiet_want; refine quiet_call (.bool (nameB ar)) 55 #[.string ar] (fun W => ?_) (fun W hC => HNAME.out _ W H5.out hC) ?_; go_simp; simp only [Act.put, List.setIfInBounds_toArray, List.set_cons_zero, List.set_cons_succ]; go_big_quiet_on)
       (go_big_quiet_want; refine quiet_call (.bool false) 77 #[.bool (argF k), .string ar, .bool (nameB ar)] (fun W => ?_) (fun W hC => (F2.out W).mono (fun e w' h => ⟨h.1, h.2 ▸ hC⟩)) ?_; go_simp; simp only [Act.put, List.setIfInBounds_toArray, List.set_cons_zero, List.set_cons_succ]; go_big_quiet_on)
       (go_big_quiet_want; refine quiet_run (.bool false) (fun W hC => ?_) ?_; (obtain ⟨d4, d5, d6, dB⟩ := hC; go_simp); simp only [Act.put, List.setIfInBounds_toArray, List.set_cons_zero, List.set_cons_succ]; go_big_quiet_on)
       (go_big_quiet_want; refine quiet_run (.bool false) (fun W hC => ?_) ?_; (obtain ⟨d4, d5, d6, dB⟩ := hC; go_simp); simp only [Act.put, List.setIfInBounds_toArray, List.set_cons_zero, List.set_cons_succ]; go_big_quiet_on)
       go_big_quiet_skip
       go_big_quiet_skip
       go_big_quiet_skip
       go_big_quiet_skip
       go_big_quiet_skip
       go_big_quiet_skip
       go_big_quiet_skip
       go_big_quiet_skip
       go_big_quiet_skip
       (go_big_quiet_want; refine quiet_run (.bool false) (fun W hC => ?_) ?_; (obtain ⟨d4, d5, d6, dB⟩ := hC; go_simp); simp only [Act.put, List.setIfInBounds_toArray, List.set_cons_zero, List.set_cons_succ]; go_big_quiet_on)
       (go_big_quiet_want; refine quiet_run (.bool false) (fun W hC => ?_) ?_; (obtain ⟨d4, d5, d6, dB⟩ := hC; go_simp); simp only [Act.put, List.setIfInBounds_toArray, List.set_cons_zero, List.set_cons_succ]; go_big_quiet_on)
       refine wpQuiet_nil ?_
       rintro w2 ⟨d4, d5, d6, dB⟩
       have DB := Lib.hid dB; clear d4 d5 d6 dB
       go_wp2_with (fail)
       go_ret
       exact ⟨ret_bool (by simp [H1.out, H2.out]), DB.out⟩
      ·rw [h2] at hf2
       have F2 := Lib.hid hf2; have H2 := Lib.hid h2
       clear hf2 h2
       (go_big_quiet_want; refine quiet_run (.bool (nameF k)) (fun W hC => ?_) ?_; (obtain ⟨d4, d5, d6, dB⟩ := hC; go_simp); simp only [Act.put, List.setIfInBounds_toArray, List.set_cons_zero, List.set_cons_succ]; go_big_quiet_on)
       (go_big_quiet_want; refine quiet_run (.pointer (some ⟨w.heap.size, 0, none⟩)) (fun W hC => ?_) ?_; (obtain ⟨d4, d5, d6, dB⟩ := hC; go_simp); simp only [Act.put, List.setIfInBounds_toArray, List.set_cons_zero, List.set_cons_succ]; go_big_quiet_on)
       (go_big_quiet_want; refine quiet_run (.pointer (some ⟨w.heap.size, 4, none⟩)) (fun W hC => ?_) ?_; (obtain ⟨d4, d5, d6, dB⟩ := hC; go_simp); simp only [Act.put, List.setIfInBounds_toArray, List.set_cons_zero, List.set_cons_succ]; go_big_quiet_on)
       (go_big_quiet_want; refine quiet_run (.string nm) (fun W hC => ?_) ?_; (obtain ⟨d4, d5, d6, dB⟩ := hC; go_simp); simp only [Act.put, List.setIfInBounds_toArray, List.set_cons_zero, List.set_cons_succ]; go_big_quiet_on)
       (go_big_quiet_want; refine quiet_run (.pointer (some ⟨w.heap.size, 0, none⟩)) (fun W hC => ?_) ?_; (obtain ⟨d4, d5, d6, dB⟩ := hC; go_simp); simp only [Act.put, List.setIfInBounds_toArray, List.set_cons_zero, List.set_cons_succ]; go_big_quiet_on)
       (go_big_quiet_want; refine quiet_run (.pointer (some ⟨w.heap.size, 4, none⟩)) (fun W hC => ?_) ?_; (obtain ⟨d4, d5, d6, dB⟩ := hC; go_simp); simp only [Act.put, List.setIfInBounds_toArray, List.set_cons_zero, List.set_cons_succ]; go_big_quiet_on)
       (go_big_quiet_want; refine quiet_run (.string nm) (fun W hC => ?_) ?_; (obtain ⟨d4, d5, d6, dB⟩ := hC; go_simp); simp only [Act.put, List.setIfInBounds_toArray, List.set_cons_zero, List.set_cons_succ]; go_big_quiet_on)
       (go_big_quiet_want; refine quiet_call (.bool (nameB nm)) 55 #[.string nm] (fun W => ?_) (fun W hC => HNAME.out _ W H4.out hC) ?_; go_simp; simp only [Act.put, List.setIfInBounds_toArray, List.set_cons_zero, List.set_cons_succ]; go_big_quiet_on)
       (go_big_quiet_want; refine quiet_call (.bool true) 77 #[.bool (nameF k), .string nm, .bool (nameB nm)] (fun W => ?_) (fun W hC => (F1.out W).mono (fun e w' h => ⟨h.1, h.2 ▸ hC⟩)) ?_; go_simp; simp only [Act.put, List.setIfInBounds_toArray, List.set_cons_zero, List.set_cons_succ]; go_big_quiet_on)
       (go_big_quiet_want; refine quiet_run (.bool true) (fun W hC => ?_) ?_; (obtain ⟨d4, d5, d6, dB⟩ := hC; go_simp); simp only [Act.put, List.setIfInBounds_toArray, List.set_cons_zero, List.set_cons_succ]; go_big_quiet_on)
       (go_big_quiet_want; refine quiet_run (.bool (argF k)) (fun W hC => ?_) ?_; (obtain ⟨d4, d5, d6, dB⟩ := hC; go_simp); simp only [Act.put, List.setIfInBounds_toArray, List.set_cons_zero, List.set_cons_succ]; go_big_quiet_on)
       (go_big_quiet_want; refine quiet_run (.pointer (some ⟨w.heap.size, 0, none⟩)) (fun W hC => ?_) ?_; (obtain ⟨d4, d5, d6, dB⟩ := hC; go_simp); simp only [Act.put, List.setIfInBounds_toArray, List.set_cons_zero, List.set_cons_succ]; go_big_quiet_on)
       (go_big_quiet_want; refine quiet_run (.pointer (some ⟨w.heap.size, 5, none⟩)) (fun W hC => ?_) ?_; (obtain ⟨d4, d5, d6, dB⟩ := hC; go_simp); simp only [Act.put, List.setIfInBounds_toArray, List.set_cons_zero, List.set_cons_succ]; go_big_quiet_on)
       (go_big_quiet_want; refine quiet_run (.string ar) (fun W hC => ?_) ?_; (obtain ⟨d4, d5, d6, dB⟩ := hC; go_simp); simp only [Act.put, List.setIfInBounds_toArray, List.set_cons_zero, List.set_cons_succ]; go_big_quiet_on)
       (go_big_quiet_want; refine quiet_run (.pointer (some ⟨w.heap.size, 0, none⟩)) (fun W hC => ?_) ?_; (obtain ⟨d4, d5, d6, dB⟩ := hC; go_simp); simp only [Act.put, List.setIfInBounds_toArray, List.set_cons_zero, List.set_cons_succ]; go_big_quiet_on)
       (go_big_quiet_want; refine quiet_run (.pointer (some ⟨w.heap.size, 5, none⟩)) (fun W hC => ?_) ?_; (obtain ⟨d4, d5, d6, dB⟩ := hC; go_simp); simp only [Act.put, List.setIfInBounds_toArray, List.set_cons_zero, List.set_cons_succ]; go_big_quiet_on)
       (go_big_quiet_want; refine quiet_run (.string ar) (fun W hC => ?_) ?_; (obtain ⟨d4, d5, d6, dB⟩ := hC; go_simp); simp only [Act.put, List.setIfInBounds_toArray, List.set_cons_zero, List.set_cons_succ]; go_big_quiet_on)
       (go_big_quiet_want; refine quiet_call (.bool (nameB ar)) 55 #[.string ar] (fun W => ?_) (fun W hC => HNAME.out _ W H5.out hC) ?_; go_simp; simp only [Act.put, List.setIfInBounds_toArray, List.set_cons_zero, List.set_cons_succ]; go_big_quiet_on)
       (go_big_quiet_want; refine quiet_call (.bool true) 77 #[.bool (argF k), .string ar, .bool (nameB ar)] (fun W => ?_) (fun W hC => (F2.out W).mono (fun e w' h => ⟨h.1, h.2 ▸ hC⟩)) ?_; go_simp; simp only [Act.put, List.setIfInBounds_toArray, List.set_cons_zero, List.set_cons_succ]; go_big_quiet_on)
       (go_big_quiet_want; refine quiet_run (.bool true) (fun W hC => ?_) ?_; (obtain ⟨d4, d5, d6, dB⟩ := hC; go_simp); simp only [Act.put, List.setIfInBounds_toArray, List.set_cons_zero, List.set_cons_succ]; go_big_quiet_on)
       (go_big_quiet_want; refine quiet_run (.bool true) (fun W hC => ?_) ?_; (obtain ⟨d4, d5, d6, dB⟩ := hC; go_simp); simp only [Act.put, List.setIfInBounds_toArray, List.set_cons_zero, List.set_cons_succ]; go_big_quiet_on)
       (go_big_quiet_want; refine quiet_run (.bool (exnF k)) (fun W hC => ?_) ?_; (obtain ⟨d4, d5, d6, dB⟩ := hC; go_simp); simp only [Act.put, List.setIfInBounds_toArray, List.set_cons_zero, List.set_cons_succ]; go_big_quiet_on)
       (go_big_quiet_want; refine quiet_run (.pointer (some ⟨w.heap.size, 0, none⟩)) (fun W hC => ?_) ?_; (obtain ⟨d4, d5, d6, dB⟩ := hC; go_simp); simp only [Act.put, List.setIfInBounds_toArray, List.set_cons_zero, List.set_cons_succ]; go_big_quiet_on)
       (go_big_quiet_want; refine quiet_run (.pointer (some ⟨w.heap.size, 6, none⟩)) (fun W hC => ?_) ?_; (obtain ⟨d4, d5, d6, dB⟩ := hC; go_simp); simp only [Act.put, List.setIfInBounds_toArray, List.set_cons_zero, List.set_cons_succ]; go_big_quiet_on)
       (go_big_quiet_want; refine quiet_run (.string ex) (fun W hC => ?_) ?_; (obtain ⟨d4, d5, d6, dB⟩ := hC; go_simp); simp only [Act.put, List.setIfInBounds_toArray, List.set_cons_zero, List.set_cons_succ]; go_big_quiet_on)
       (go_big_quiet_want; refine quiet_run (.pointer (some ⟨w.heap.size, 0, none⟩)) (fun W hC => ?_) ?_; (obtain ⟨d4, d5, d6, dB⟩ := hC; go_simp); simp only [Act.put, List.setIfInBounds_toArray, List.set_cons_zero, List.set_cons_succ]; go_big_quiet_on)
       (go_big_quiet_want; refine quiet_run (.pointer (some ⟨w.heap.size, 6, none⟩)) (fun W hC => ?_) ?_; (obtain ⟨d4, d5, d6, dB⟩ := hC; go_simp); simp only [Act.put, List.setIfInBounds_toArray, List.set_cons_zero, List.set_cons_succ]; go_big_quiet_on)
       (go_big_quiet_want; refine quiet_run (.string ex) (fun W hC => ?_) ?_; (obtain ⟨d4, d5, d6, dB⟩ := hC; go_simp); simp only [Act.put, List.setIfInBounds_toArray, List.set_cons_zero, List.set_cons_succ]; go_big_quiet_on)
       (go_big_quiet_want; refine quiet_call (.bool (exnB ex)) 73 #[.string ex] (fun W => ?_) (fun W hC => HEXN.out _ W H6.out hC) ?_; go_simp; simp only [Act.put, List.setIfInBounds_toArray, List.set_cons_zero, List.set_cons_succ]; go_big_quiet_on)
       (go_big_quiet_want; refine quiet_call (.bool (fitsB (exnF k) ex (exnB ex))) 77 #[.bool (exnF k), .string ex, .bool (exnB ex)] (fun W => ?_) (fun W hC => (F3.out W).mono (fun e w' h => ⟨h.1, h.2 ▸ hC⟩)) ?_; go_simp; simp only [Act.put, List.setIfInBounds_toArray, List.set_cons_zero, List.set_cons_succ]; go_big_quiet_on)
       (go_big_quiet_want; refine quiet_run (.bool (fitsB (exnF k) ex (exnB ex))) (fun W hC => ?_) ?_; (obtain ⟨d4, d5, d6, dB⟩ := hC; go_simp); simp only [Act.put, List.setIfInBounds_toArray, List.set_cons_zero, List.set_cons_succ]; go_big_quiet_on)
       (go_big_quiet_want; refine quiet_run (.bool (fitsB (exnF k) ex (exnB ex))) (fun W hC => ?_) ?_; (obtain ⟨d4, d5, d6, dB⟩ := hC; go_simp); simp only [Act.put, List.setIfInBounds_toArray, List.set_cons_zero, List.set_cons_succ]; go_big_quiet_on)
       refine wpQuiet_nil ?_
       rintro w2 ⟨d4, d5, d6, dB⟩
       have DB := Lib.hid dB; clear d4 d5 d6 dB
       go_wp2_with (fail)
       go_ret
       exact ⟨ret_bool (by simp [H1.out, H2.out]), DB.out⟩
end Term
end Go.Proofs.YtkfkpjngiffamaaGreatDoor
