/-The walk of whether a node alone may be, by the document: its texts. The walk of the document's May. The walk of the document's bound on what is gone through. -/
import Derived.Test.YtkcadkjpneoobaaDoorGTermA
import Derived.Deep.DeepCutAuto
import Derived.Deep.Quiet
import Derived.BigQuiet
import Derived.Test.YtkcadkjpneoobaaDoorGTermE
import Derived.LoopTactic
import Derived.Outline
import Derived.Lib.Hide
import Derived.IntWalk
namespace Go.Proofs.YtkcadkjpneoobaaDoor
open Go.RowKit
set_option linter.unusedVariables false
namespace Term
open Words (nameB exnB)

/-- One operation that reads, in every world of a class. -/
theorem quiet_run {P : Program} {C : World → Prop} {a : Act} {o : Oper} {K : Act → Prop} (u : Value) (h : ∀ w, C w → (execOp a.eval o).run P w = .ok (.value u) w) (hk : K (a.put o.dst u)) : o.quiet P a C K :=
  ⟨u, fun w hw => by unfold Oper.quietAt; rw [h w hw]; exact ⟨rfl, rfl⟩, hk⟩
theorem quiet_call {P : Program} {C : World → Prop} {a : Act} {o : Oper} {K : Act → Prop} (v : Value) (f : FuncId) (args : Array Value) (hr : ∀ w, (execOp a.eval o).run P w = .ok (.enter f args) w) (h : ∀ w, C w → Calls P f args w fun e w' => e = .returned v ∧ C w') (hk : K (a.put o.dst v)) : o.quiet P a C K :=
  ⟨v, fun w hw => by unfold Oper.quietAt; rw [hr w]; exact ⟨rfl, h w hw⟩, hk⟩
theorem region_quiet_lit {P : Program} {C : World → Prop} {id : Nat} {Q : Exit → Act → World → Prop} {a : Act} {w : World} {l : List Oper} (hm : P.follows .mixedOrders = true) (hB : Region.lexB .any l.toArray = true) (hC : C w.drew)
    (h : wpQuiet P l.toArray C (fun a' => ∀ w', C w' → Q .normal a' w') l a) : (Code.region id l.toArray true).wp P Q a w :=
  wp_region_quiet (C := C) hm hB hC (by simpa using h)

theorem boxq {w : World} {cs : Array Value} {t : TypeId} (q j : Nat) {v : Value} (hv : cs[j]? = some v) : ((w.alloc (.cells cs t)).drewN q).cell? ⟨w.heap.size, j, none⟩ = some v := by
  show (w.alloc (.cells cs t)).cell? ⟨w.heap.size, j, none⟩ = some v
  rw [World.cell?_alloc_mark, hv]
theorem val_bool {a b : Bool} (h : a = b) : Value.bool a = .bool b := by rw [h]

set_option maxRecDepth 100000 in
set_option maxHeartbeats 12800000 in
theorem node_fits (k op pl nn : Int) (nm ar ex : ByteArray) (p : Option Addr) (l c : Nat) (w : World) (hk : 0 ≤ k ∧ k ≤ 255) (hop : 0 ≤ op ∧ op ≤ 255) (hl : l ≤ 9223372036854775807) (hb : kidsN k = l) (hpl : 0 ≤ pl)
    (pre : ((k == 9) = true ∧ (k != 9) = false ∧ (k != 1) = true ∧ 1 ≤ op ∧ op ≤ 5 ∧ nn = 0) ∨ ((k == 9) = false ∧ (k != 9) = true ∧ op = 0 ∧ (k != 1) = false ∧ 0 ≤ nn ∧ nn ≤ 2147483647) ∨ ((k == 9) = false ∧ (k != 9) = true ∧ op = 0 ∧ (k != 1) = true ∧ nn = 0))
    (hs4 : nm.size ≤ maxLen) (hs5 : ar.size ≤ maxLen) (hs6 : ex.size ≤ maxLen) :
    Calls Tryd.prog 34 #[.agg #[.int .u8 k, .int .u8 op, .int .i64 pl, .int .i64 nn, .string nm, .string ar, .string ex, .slice p l c]] w fun e w' => e = .returned (.bool (fitsB (nameF k) nm (nameB nm) && fitsB (argF k) ar (nameB ar) && fitsB (exnF k) ex (exnB ex))) ∧ Below w.heap.size w w' := by
  have hbox : ∀ O : Obj, ∀ q, Below w.heap.size w ((w.alloc O).drewN q) := fun O q => ⟨rfl, rfl, rfl, by simp [World.drewN], fun i hi => Below.heap_alloc _ _ _ hi⟩
  have HBOX := Lib.hid hbox
  have hkc := fun W => refKids_walk k hk.1 hk.2 W
  rw [hb] at hkc
  have HKC := Lib.hid hkc
  have n1 : ((l : Int) != (l : Int)) = false := by simp
  have hd : decide ((l : Int) < 0) = false := by simp
  have hnk : ∀ v : Int, (k = v → (k == v) = true) ∧ (k ≠ v → (k == v) = false) := fun v => ⟨fun h => by simpa using h, fun h => by simpa using h⟩
  have HNK := Lib.hid hnk
  have hstay : ∀ W w' : World, (W.cell? ⟨w.heap.size, 4, none⟩ = some (.string nm) ∧ W.cell? ⟨w.heap.size, 5, none⟩ = some (.string ar) ∧ W.cell? ⟨w.heap.size, 6, none⟩ = some (.string ex) ∧ Below w.heap.size w W) → Below W.heap.size W w' → (w'.cell? ⟨w.heap.size, 4, none⟩ = some (.string nm) ∧ w'.cell? ⟨w.heap.size, 5, none⟩ = some (.string ar) ∧ w'.cell? ⟨w.heap.size, 6, none⟩ = some (.string ex) ∧ Below w.heap.size w w') := fun W w' ⟨d4, d5, d6, dB⟩ hb => by
    have hl := World.block_lt_of_cell? W _ d4
    exact ⟨(hb.cell (p := ⟨w.heap.size, 4, none⟩) hl).trans d4, (hb.cell (p := ⟨w.heap.size, 5, none⟩) hl).trans d5, (hb.cell (p := ⟨w.heap.size, 6, none⟩) hl).trans d6, dB.trans (hb.mono dB.size)⟩
  have hname : ∀ (s : ByteArray) (W : World), s.size ≤ maxLen → (W.cell? ⟨w.heap.size, 4, none⟩ = some (.string nm) ∧ W.cell? ⟨w.heap.size, 5, none⟩ = some (.string ar) ∧ W.cell? ⟨w.heap.size, 6, none⟩ = some (.string ex) ∧ Below w.heap.size w W) → Calls Tryd.prog 45 #[.string s] W fun e w' => e = .returned (.bool (nameB s)) ∧ w'.cell? ⟨w.heap.size, 4, none⟩ = some (.string nm) ∧ w'.cell? ⟨w.heap.size, 5, none⟩ = some (.string ar) ∧ w'.cell? ⟨w.heap.size, 6, none⟩ = some (.string ex) ∧ Below w.heap.size w w' := fun s W hs hS =>
    (Words.refName_walk s W hs).mono fun e w' ⟨he, hb⟩ => ⟨he, hstay W w' hS hb⟩
  have hexn : ∀ (s : ByteArray) (W : World), s.size ≤ maxLen → (W.cell? ⟨w.heap.size, 4, none⟩ = some (.string nm) ∧ W.cell? ⟨w.heap.size, 5, none⟩ = some (.string ar) ∧ W.cell? ⟨w.heap.size, 6, none⟩ = some (.string ex) ∧ Below w.heap.size w W) → Calls Tryd.prog 46 #[.string s] W fun e w' => e = .returned (.bool (exnB s)) ∧ w'.cell? ⟨w.heap.size, 4, none⟩ = some (.string nm) ∧ w'.cell? ⟨w.heap.size, 5, none⟩ = some (.string ar) ∧ w'.cell? ⟨w.heap.size, 6, none⟩ = some (.string ex) ∧ Below w.heap.size w w' := fun s W hs hS =>
    (Words.refExn_walk s W hs).mono fun e w' ⟨he, hb⟩ => ⟨he, hstay W w' hS hb⟩
  have HNAME := Lib.hid hname; have HEXN := Lib.hid hexn
  clear hstay hname hexn
  have H4 := Lib.hid hs4; have H5 := Lib.hid hs5; have H6 := Lib.hid hs6
  clear hbox hkc hb hnk hs4 hs5 hs6
  rcases pre with ⟨t1, t2, t3, o1, o5, rfl⟩ | ⟨t1, t2, rfl, t3, a0, a1⟩ | ⟨t1, t2, rfl, t3, rfl⟩
  all_goals
    go_enter Tryd.func34, Tryd.ntmps34
    go_wp2_with (fail)
    go_quiet ((go_at_call 43; exact Calls.quiet_of_same ((HKC.out _).mono fun _ _ h => ⟨h.1, h.2.symm⟩)))
    go_upto_region 8 with (fail)
    go_cut [4] (fun s4 wx => s4 = .bool (nameF k) ∧ wx.cell? ⟨w.heap.size, 4, none⟩ = some (.string nm) ∧ wx.cell? ⟨w.heap.size, 5, none⟩ = some (.string ar) ∧ wx.cell? ⟨w.heap.size, 6, none⟩ = some (.string ex) ∧ Below w.heap.size w wx)
    case first =>
      by_cases k2 : k = 2
      · have e2 := (HNK.out 2).1 k2
        have hf : nameF k = true := by unfold nameF; simp [k2]
        have HF := Lib.hid hf; have HK2 := Lib.hid k2
        clear hf k2
        go_wp2_with (fail)
        go_meet
        exact ⟨val_bool HF.out.symm, boxq _ 4 rfl, boxq _ 5 rfl, boxq _ 6 rfl, HBOX.out _ _⟩
      have e2 := (HNK.out 2).2 k2
      by_cases k12 : k = 12
      · have e12 := (HNK.out 12).1 k12
        have hf : nameF k = true := by unfold nameF; simp [k12]
        have HF := Lib.hid hf; have HK12 := Lib.hid k12
        clear hf k12
        go_wp2_with (fail)
        go_meet
        exact ⟨val_bool HF.out.symm, boxq _ 4 rfl, boxq _ 5 rfl, boxq _ 6 rfl, HBOX.out _ _⟩
      have e12 := (HNK.out 12).2 k12
      by_cases k13 : k = 13
      · have e13 := (HNK.out 13).1 k13
        have hf : nameF k = true := by unfold nameF; simp [k13]
        have HF := Lib.hid hf; have HK13 := Lib.hid k13
        clear hf k13
        go_wp2_with (fail)
        go_meet
        exact ⟨val_bool HF.out.symm, boxq _ 4 rfl, boxq _ 5 rfl, boxq _ 6 rfl, HBOX.out _ _⟩
      have e13 := (HNK.out 13).2 k13
      have hf : nameF k = false := by unfold nameF; simp [k2, k12, k13]
      have HF := Lib.hid hf; have HK2 := Lib.hid k2; have HK12 := Lib.hid k12; have HK13 := Lib.hid k13
      clear hf k2 k12 k13
      go_wp2_with (fail)
      go_meet
      exact ⟨val_bool HF.out.symm, boxq _ 4 rfl, boxq _ 5 rfl, boxq _ 6 rfl, HBOX.out _ _⟩
    case rest =>
      obtain ⟨rfl, c4, c5, c6, hw⟩ := hcut
      have HW := Lib.hid hw
      clear hw
      go_upto_region 9 with (fail)
      go_cut [5] (fun s5 wx => s5 = .bool (argF k) ∧ wx = wc)
      case first =>
        by_cases k11 : k = 11
        · have e11 := (HNK.out 11).1 k11
          have hf : argF k = true := by unfold argF; simp [k11]
          have HF := Lib.hid hf; have HK11 := Lib.hid k11
          clear hf k11
          go_wp2_with (fail)
          go_meet
          exact ⟨val_bool HF.out.symm, rfl⟩
        have e11 := (HNK.out 11).2 k11
        by_cases k13 : k = 13
        · have e13 := (HNK.out 13).1 k13
          have hf : argF k = true := by unfold argF; simp [k13]
          have HF := Lib.hid hf; have HK13 := Lib.hid k13
          clear hf k13
          go_wp2_with (fail)
          go_meet
          exact ⟨val_bool HF.out.symm, rfl⟩
        have e13 := (HNK.out 13).2 k13
        by_cases k16 : k = 16
        · have e16 := (HNK.out 16).1 k16
          have hf : argF k = true := by unfold argF; simp [k16]
          have HF := Lib.hid hf; have HK16 := Lib.hid k16
          clear hf k16
          go_wp2_with (fail)
          go_meet
          exact ⟨val_bool HF.out.symm, rfl⟩
        have e16 := (HNK.out 16).2 k16
        have hf : argF k = false := by unfold argF; simp [k11, k13, k16]
        have HF := Lib.hid hf; have HK11 := Lib.hid k11; have HK13 := Lib.hid k13; have HK16 := Lib.hid k16
        clear hf k11 k13 k16
        go_wp2_with (fail)
        go_meet
        exact ⟨val_bool HF.out.symm, rfl⟩
      case rest =>
        obtain ⟨rfl, rfl⟩ := hcut
        go_upto_region 10 with (fail)
        go_cut [6] (fun s6 wx => s6 = .bool (exnF k) ∧ wx = wc)
        case first =>
          by_cases k15 : k = 15
          · have e15 := (HNK.out 15).1 k15
            have hf : exnF k = true := by unfold exnF; simp [k15]
            have HF := Lib.hid hf; have HK15 := Lib.hid k15
            clear hf k15
            go_wp2_with (fail)
            go_meet
            exact ⟨val_bool HF.out.symm, rfl⟩
          have e15 := (HNK.out 15).2 k15
          by_cases k16 : k = 16
          · have e16 := (HNK.out 16).1 k16
            have hf : exnF k = true := by unfold exnF; simp [k16]
            have HF := Lib.hid hf; have HK16 := Lib.hid k16
            clear hf k16
            go_wp2_with (fail)
            go_meet
            exact ⟨val_bool HF.out.symm, rfl⟩
          have e16 := (HNK.out 16).2 k16
          have hf : exnF k = false := by unfold exnF; simp [k15, k16]
          have HF := Lib.hid hf; have HK15 := Lib.hid k15; have HK16 := Lib.hid k16
          clear hf k15 k16
          go_wp2_with (fail)
          go_meet
          exact ⟨val_bool HF.out.symm, rfl⟩
        case rest =>
          obtain ⟨rfl, rfl⟩ := hcut
          have hw := HW.out
          have hf1 := fun W => fits_walk (nameF k) nm (nameB nm) W
          have hf2 := fun W => fits_walk (argF k) ar (nameB ar) W
          have hf3 := fun W => fits_walk (exnF k) ex (exnB ex) W
          have F3 := Lib.hid hf3
          go_wp2_with (fail)
          refine region_quiet_lit (C := fun W : World => W.cell? ⟨w.heap.size, 4, none⟩ = some (.string nm) ∧ W.cell? ⟨w.heap.size, 5, none⟩ = some (.string ar) ∧ W.cell? ⟨w.heap.size, 6, none⟩ = some (.string ex) ∧ Below w.heap.size w W) (by kernel_rfl) (by kernel_rfl) ⟨c4, c5, c6, hw.drew⟩ ?_
          clear c4 c5 c6 hf3
          cases h1 : fitsB (nameF k) nm (nameB nm)
          · rw [h1] at hf1
            have F1 := Lib.hid hf1; have H1 := Lib.hid h1
            clear hf1 hf2 h1
            (go_big_quiet_want; refine quiet_run (.bool (nameF k)) (fun W hC => ?_) ?_; (obtain ⟨d4, d5, d6, dB⟩ := hC; go_simp); simp only [Act.put, List.setIfInBounds_toArray, List.set_cons_zero, List.set_cons_succ]; go_big_quiet_on)
            (go_big_quiet_want; refine quiet_run (.pointer (some ⟨w.heap.size, 0, none⟩)) (fun W hC => ?_) ?_; (obtain ⟨d4, d5, d6, dB⟩ := hC; go_simp); simp only [Act.put, List.setIfInBounds_toArray, List.set_cons_zero, List.set_cons_succ]; go_big_quiet_on)
            (go_big_quiet_want; refine quiet_run (.pointer (some ⟨w.heap.size, 4, none⟩)) (fun W hC => ?_) ?_; (obtain ⟨d4, d5, d6, dB⟩ := hC; go_simp); simp only [Act.put, List.setIfInBounds_toArray, List.set_cons_zero, List.set_cons_succ]; go_big_quiet_on)
            (go_big_quiet_want; refine quiet_run (.string nm) (fun W hC => ?_) ?_; (obtain ⟨d4, d5, d6, dB⟩ := hC; go_simp); simp only [Act.put, List.setIfInBounds_toArray, List.set_cons_zero, List.set_cons_succ]; go_big_quiet_on)
            (go_big_quiet_want; refine quiet_run (.pointer (some ⟨w.heap.size, 0, none⟩)) (fun W hC => ?_) ?_; (obtain ⟨d4, d5, d6, dB⟩ := hC; go_simp); simp only [Act.put, List.setIfInBounds_toArray, List.set_cons_zero, List.set_cons_succ]; go_big_quiet_on)
            (go_big_quiet_want; refine quiet_run (.pointer (some ⟨w.heap.size, 4, none⟩)) (fun W hC => ?_) ?_; (obtain ⟨d4, d5, d6, dB⟩ := hC; go_simp); simp only [Act.put, List.setIfInBounds_toArray, List.set_cons_zero, List.set_cons_succ]; go_big_quiet_on)
            (go_big_quiet_want; refine quiet_run (.string nm) (fun W hC => ?_) ?_; (obtain ⟨d4, d5, d6, dB⟩ := hC; go_simp); simp only [Act.put, List.setIfInBounds_toArray, List.set_cons_zero, List.set_cons_succ]; go_big_quiet_on)
            (go_big_quiet_want; refine quiet_call (.bool (nameB nm)) 45 #[.string nm] (fun W => ?_) (fun W hC => HNAME.out _ W H4.out hC) ?_; go_simp; simp only [Act.put, List.setIfInBounds_toArray, List.set_cons_zero, List.set_cons_succ]; go_big_quiet_on)
            (go_big_quiet_want; refine quiet_call (.bool false) 44 #[.bool (nameF k), .string nm, .bool (nameB nm)] (fun W => ?_) (fun W hC => (F1.out W).mono (fun e w' h => ⟨h.1, h.2 ▸ hC⟩)) ?_; go_simp; simp only [Act.put, List.setIfInBounds_toArray, List.set_cons_zero, List.set_cons_succ]; go_big_quiet_on)
            (go_big_quiet_want; refine quiet_run (.bool false) (fun W hC => ?_) ?_; (obtain ⟨d4, d5, d6, dB⟩ := hC; go_simp); simp only [Act.put, List.setIfInBounds_toArray, List.set_cons_zero, List.set_cons_succ]; go_big_quiet_on)
            go_big_quiet_skip
            go_big_quiet_skip
            go_big_quiet_skip
            go_big_quiet_skip
            go_big_quiet_skip
            go_big_quiet_skip
            go_big_quiet_skip
            go_big_quiet_skip
            go_big_quiet_skip
            (go_big_quiet_want; refine quiet_run (.bool false) (fun W hC => ?_) ?_; (obtain ⟨d4, d5, d6, dB⟩ := hC; go_simp); simp only [Act.put, List.setIfInBounds_toArray, List.set_cons_zero, List.set_cons_succ]; go_big_quiet_on)
            (go_big_quiet_want; refine quiet_run (.bool false) (fun W hC => ?_) ?_; (obtain ⟨d4, d5, d6, dB⟩ := hC; go_simp); simp only [Act.put, List.setIfInBounds_toArray, List.set_cons_zero, List.set_cons_succ]; go_big_quiet_on)
            go_big_quiet_skip
            go_big_quiet_skip
            go_big_quiet_skip
            go_big_quiet_skip
            go_big_quiet_skip
            go_big_quiet_skip
            go_big_quiet_skip
            go_big_quiet_skip
            go_big_quiet_skip
            (go_big_quiet_want; refine quiet_run (.bool false) (fun W hC => ?_) ?_; (obtain ⟨d4, d5, d6, dB⟩ := hC; go_simp); simp only [Act.put, List.setIfInBounds_toArray, List.set_cons_zero, List.set_cons_succ]; go_big_quiet_on)
            (go_big_quiet_want; refine quiet_run (.bool false) (fun W hC => ?_) ?_; (obtain ⟨d4, d5, d6, dB⟩ := hC; go_simp); simp only [Act.put, List.setIfInBounds_toArray, List.set_cons_zero, List.set_cons_succ]; go_big_quiet_on)
            refine wpQuiet_nil ?_
            rintro w2 ⟨d4, d5, d6, dB⟩
            have DB := Lib.hid dB; clear d4 d5 d6 dB
            go_wp2_with (fail)
            go_ret
            exact ⟨ret_bool (by simp [H1.out]), DB.out⟩
          · rw [h1] at hf1
            have F1 := Lib.hid hf1; have H1 := Lib.hid h1
            clear hf1 h1
            cases h2 : fitsB (argF k) ar (nameB ar)
            · rw [h2] at hf2
              have F2 := Lib.hid hf2; have H2 := Lib.hid h2
              clear hf2 h2
              (go_big_quiet_want; refine quiet_run (.bool (nameF k)) (fun W hC => ?_) ?_; (obtain ⟨d4, d5, d6, dB⟩ := hC; go_simp); simp only [Act.put, List.setIfInBounds_toArray, List.set_cons_zero, List.set_cons_succ]; go_big_quiet_on)
              (go_big_quiet_want; refine quiet_run (.pointer (some ⟨w.heap.size, 0, none⟩)) (fun W hC => ?_) ?_; (obtain ⟨d4, d5, d6, dB⟩ := hC; go_simp); simp only [Act.put, List.setIfInBounds_toArray, List.set_cons_zero, List.set_cons_succ]; go_big_quiet_on)
              (go_big_quiet_want; refine quiet_run (.pointer (some ⟨w.heap.size, 4, none⟩)) (fun W hC => ?_) ?_; (obtain ⟨d4, d5, d6, dB⟩ := hC; go_simp); simp only [Act.put, List.setIfInBounds_toArray, List.set_cons_zero, List.set_cons_succ]; go_big_quiet_on)
              (go_big_quiet_want; refine quiet_run (.string nm) (fun W hC => ?_) ?_; (obtain ⟨d4, d5, d6, dB⟩ := hC; go_simp); simp only [Act.put, List.setIfInBounds_toArray, List.set_cons_zero, List.set_cons_succ]; go_big_quiet_on)
              (go_big_quiet_want; refine quiet_run (.pointer (some ⟨w.heap.size, 0, none⟩)) (fun W hC => ?_) ?_; (obtain ⟨d4, d5, d6, dB⟩ := hC; go_simp); simp only [Act.put, List.setIfInBounds_toArray, List.set_cons_zero, List.set_cons_succ]; go_big_quiet_on)
              (go_big_quiet_want; refine quiet_run (.pointer (some ⟨w.heap.size, 4, none⟩)) (fun W hC => ?_) ?_; (obtain ⟨d4, d5, d6, dB⟩ := hC; go_simp); simp only [Act.put, List.setIfInBounds_toArray, List.set_cons_zero, List.set_cons_succ]; go_big_quiet_on)
              (go_big_quiet_want; refine quiet_run (.string nm) (fun W hC => ?_) ?_; (obtain ⟨d4, d5, d6, dB⟩ := hC; go_simp); simp only [Act.put, List.setIfInBounds_toArray, List.set_cons_zero, List.set_cons_succ]; go_big_quiet_on)
              (go_big_quiet_want; refine quiet_call (.bool (nameB nm)) 45 #[.string nm] (fun W => ?_) (fun W hC => HNAME.out _ W H4.out hC) ?_; go_simp; simp only [Act.put, List.setIfInBounds_toArray, List.set_cons_zero, List.set_cons_succ]; go_big_quiet_on)
              (go_big_quiet_want; refine quiet_call (.bool true) 44 #[.bool (nameF k), .string nm, .bool (nameB nm)] (fun W => ?_) (fun W hC => (F1.out W).mono (fun e w' h => ⟨h.1, h.2 ▸ hC⟩)) ?_; go_simp; simp only [Act.put, List.setIfInBounds_toArray, List.set_cons_zero, List.set_cons_succ]; go_big_quiet_on)
              (go_big_quiet_want; refine quiet_run (.bool true) (fun W hC => ?_) ?_; (obtain ⟨d4, d5, d6, dB⟩ := hC; go_simp); simp only [Act.put, List.setIfInBounds_toArray, List.set_cons_zero, List.set_cons_succ]; go_big_quiet_on)
              (go_big_quiet_want; refine quiet_run (.bool (argF k)) (fun W hC => ?_) ?_; (obtain ⟨d4, d5, d6, dB⟩ := hC; go_simp); simp only [Act.put, List.setIfInBounds_toArray, List.set_cons_zero, List.set_cons_succ]; go_big_quiet_on)
              (go_big_quiet_want; refine quiet_run (.pointer (some ⟨w.heap.size, 0, none⟩)) (fun W hC => ?_) ?_; (obtain ⟨d4, d5, d6, dB⟩ := hC; go_simp); simp only [Act.put, List.setIfInBounds_toArray, List.set_cons_zero, List.set_cons_succ]; go_big_quiet_on)
              (go_big_quiet_want; refine quiet_run (.pointer (some ⟨w.heap.size, 5, none⟩)) (fun W hC => ?_) ?_; (obtain ⟨d4, d5, d6, dB⟩ := hC; go_simp); simp only [Act.put, List.setIfInBounds_toArray, List.set_cons_zero, List.set_cons_succ]; go_big_quiet_on)
              (go_big_quiet_want; refine quiet_run (.string ar) (fun W hC => ?_) ?_; (obtain ⟨d4, d5, d6, dB⟩ := hC; go_simp); simp only [Act.put, List.setIfInBounds_toArray, List.set_cons_zero, List.set_cons_succ]; go_big_quiet_on)
              (go_big_quiet_want; refine quiet_run (.pointer (some ⟨w.heap.size, 0, none⟩)) (fun W hC => ?_) ?_; (obtain ⟨d4, d5, d6, dB⟩ := hC; go_simp); simp only [Act.put, List.setIfInBounds_toArray, List.set_cons_zero, List.set_cons_succ]; go_big_quiet_on)
              (go_big_quiet_want; refine quiet_run (.pointer (some ⟨w.heap.size, 5, none⟩)) (fun W hC => ?_) ?_; (obtain ⟨d4, d5, d6, dB⟩ := hC; go_simp); simp only [Act.put, List.setIfInBounds_toArray, List.set_cons_zero, List.set_cons_succ]; go_big_quiet_on)
              (go_big_quiet_want; refine quiet_run (.string ar) (fun W hC => ?_) ?_; (obtain ⟨d4, d5, d6, dB⟩ := hC; go_simp); simp only [Act.put, List.setIfInBounds_toArray, List.set_cons_zero, List.set_cons_succ]; go_big_quiet_on)
              (go_big_quiet_want; refine quiet_call (.bool (nameB ar)) 45 #[.string ar] (fun W => ?_) (fun W hC => HNAME.out _ W H5.out hC) ?_; go_simp; simp only [Act.put, List.setIfInBounds_toArray, List.set_cons_zero, List.set_cons_succ]; go_big_quiet_on)
              (go_big_quiet_want; refine quiet_call (.bool false) 44 #[.bool (argF k), .string ar, .bool (nameB ar)] (fun W => ?_) (fun W hC => (F2.out W).mono (fun e w' h => ⟨h.1, h.2 ▸ hC⟩)) ?_; go_simp; simp only [Act.put, List.setIfInBounds_toArray, List.set_cons_zero, List.set_cons_succ]; go_big_quiet_on)
              (go_big_quiet_want; refine quiet_run (.bool false) (fun W hC => ?_) ?_; (obtain ⟨d4, d5, d6, dB⟩ := hC; go_simp); simp only [Act.put, List.setIfInBounds_toArray, List.set_cons_zero, List.set_cons_succ]; go_big_quiet_on)
              (go_big_quiet_want; refine quiet_run (.bool false) (fun W hC => ?_) ?_; (obtain ⟨d4, d5, d6, dB⟩ := hC; go_simp); simp only [Act.put, List.setIfInBounds_toArray, List.set_cons_zero, List.set_cons_succ]; go_big_quiet_on)
              go_big_quiet_skip
              go_big_quiet_skip
              go_big_quiet_skip
              go_big_quiet_skip
              go_big_quiet_skip
              go_big_quiet_skip
              go_big_quiet_skip
              go_big_quiet_skip
              go_big_quiet_skip
              (go_big_quiet_want; refine quiet_run (.bool false) (fun W hC => ?_) ?_; (obtain ⟨d4, d5, d6, dB⟩ := hC; go_simp); simp only [Act.put, List.setIfInBounds_toArray, List.set_cons_zero, List.set_cons_succ]; go_big_quiet_on)
              (go_big_quiet_want; refine quiet_run (.bool false) (fun W hC => ?_) ?_; (obtain ⟨d4, d5, d6, dB⟩ := hC; go_simp); simp only [Act.put, List.setIfInBounds_toArray, List.set_cons_zero, List.set_cons_succ]; go_big_quiet_on)
              refine wpQuiet_nil ?_
              rintro w2 ⟨d4, d5, d6, dB⟩
              have DB := Lib.hid dB; clear d4 d5 d6 dB
              go_wp2_with (fail)
              go_ret
              exact ⟨ret_bool (by simp [H1.out, H2.out]), DB.out⟩
            · rw [h2] at hf2
              have F2 := Lib.hid hf2; have H2 := Lib.hid h2
              clear hf2 h2
              (go_big_quiet_want; refine quiet_run (.bool (nameF k)) (fun W hC => ?_) ?_; (obtain ⟨d4, d5, d6, dB⟩ := hC; go_simp); simp only [Act.put, List.setIfInBounds_toArray, List.set_cons_zero, List.set_cons_succ]; go_big_quiet_on)
              (go_big_quiet_want; refine quiet_run (.pointer (some ⟨w.heap.size, 0, none⟩)) (fun W hC => ?_) ?_; (obtain ⟨d4, d5, d6, dB⟩ := hC; go_simp); simp only [Act.put, List.setIfInBounds_toArray, List.set_cons_zero, List.set_cons_succ]; go_big_quiet_on)
              (go_big_quiet_want; refine quiet_run (.pointer (some ⟨w.heap.size, 4, none⟩)) (fun W hC => ?_) ?_; (obtain ⟨d4, d5, d6, dB⟩ := hC; go_simp); simp only [Act.put, List.setIfInBounds_toArray, List.set_cons_zero, List.set_cons_succ]; go_big_quiet_on)
              (go_big_quiet_want; refine quiet_run (.string nm) (fun W hC => ?_) ?_; (obtain ⟨d4, d5, d6, dB⟩ := hC; go_simp); simp only [Act.put, List.setIfInBounds_toArray, List.set_cons_zero, List.set_cons_succ]; go_big_quiet_on)
              (go_big_quiet_want; refine quiet_run (.pointer (some ⟨w.heap.size, 0, none⟩)) (fun W hC => ?_) ?_; (obtain ⟨d4, d5, d6, dB⟩ := hC; go_simp); simp only [Act.put, List.setIfInBounds_toArray, List.set_cons_zero, List.set_cons_succ]; go_big_quiet_on)
              (go_big_quiet_want; refine quiet_run (.pointer (some ⟨w.heap.size, 4, none⟩)) (fun W hC => ?_) ?_; (obtain ⟨d4, d5, d6, dB⟩ := hC; go_simp); simp only [Act.put, List.setIfInBounds_toArray, List.set_cons_zero, List.set_cons_succ]; go_big_quiet_on)
              (go_big_quiet_want; refine quiet_run (.string nm) (fun W hC => ?_) ?_; (obtain ⟨d4, d5, d6, dB⟩ := hC; go_simp); simp only [Act.put, List.setIfInBounds_toArray, List.set_cons_zero, List.set_cons_succ]; go_big_quiet_on)
              (go_big_quiet_want; refine quiet_call (.bool (nameB nm)) 45 #[.string nm] (fun W => ?_) (fun W hC => HNAME.out _ W H4.out hC) ?_; go_simp; simp only [Act.put, List.setIfInBounds_toArray, List.set_cons_zero, List.set_cons_succ]; go_big_quiet_on)
              (go_big_quiet_want; refine quiet_call (.bool true) 44 #[.bool (nameF k), .string nm, .bool (nameB nm)] (fun W => ?_) (fun W hC => (F1.out W).mono (fun e w' h => ⟨h.1, h.2 ▸ hC⟩)) ?_; go_simp; simp only [Act.put, List.setIfInBounds_toArray, List.set_cons_zero, List.set_cons_succ]; go_big_quiet_on)
              (go_big_quiet_want; refine quiet_run (.bool true) (fun W hC => ?_) ?_; (obtain ⟨d4, d5, d6, dB⟩ := hC; go_simp); simp only [Act.put, List.setIfInBounds_toArray, List.set_cons_zero, List.set_cons_succ]; go_big_quiet_on)
              (go_big_quiet_want; refine quiet_run (.bool (argF k)) (fun W hC => ?_) ?_; (obtain ⟨d4, d5, d6, dB⟩ := hC; go_simp); simp only [Act.put, List.setIfInBounds_toArray, List.set_cons_zero, List.set_cons_succ]; go_big_quiet_on)
              (go_big_quiet_want; refine quiet_run (.pointer (some ⟨w.heap.size, 0, none⟩)) (fun W hC => ?_) ?_; (obtain ⟨d4, d5, d6, dB⟩ := hC; go_simp); simp only [Act.put, List.setIfInBounds_toArray, List.set_cons_zero, List.set_cons_succ]; go_big_quiet_on)
              (go_big_quiet_want; refine quiet_run (.pointer (some ⟨w.heap.size, 5, none⟩)) (fun W hC => ?_) ?_; (obtain ⟨d4, d5, d6, dB⟩ := hC; go_simp); simp only [Act.put, List.setIfInBounds_toArray, List.set_cons_zero, List.set_cons_succ]; go_big_quiet_on)
              (go_big_quiet_want; refine quiet_run (.string ar) (fun W hC => ?_) ?_; (obtain ⟨d4, d5, d6, dB⟩ := hC; go_simp); simp only [Act.put, List.setIfInBounds_toArray, List.set_cons_zero, List.set_cons_succ]; go_big_quiet_on)
              (go_big_quiet_want; refine quiet_run (.pointer (some ⟨w.heap.size, 0, none⟩)) (fun W hC => ?_) ?_; (obtain ⟨d4, d5, d6, dB⟩ := hC; go_simp); simp only [Act.put, List.setIfInBounds_toArray, List.set_cons_zero, List.set_cons_succ]; go_big_quiet_on)
              (go_big_quiet_want; refine quiet_run (.pointer (some ⟨w.heap.size, 5, none⟩)) (fun W hC => ?_) ?_; (obtain ⟨d4, d5, d6, dB⟩ := hC; go_simp); simp only [Act.put, List.setIfInBounds_toArray, List.set_cons_zero, List.set_cons_succ]; go_big_quiet_on)
              (go_big_quiet_want; refine quiet_run (.string ar) (fun W hC => ?_) ?_; (obtain ⟨d4, d5, d6, dB⟩ := hC; go_simp); simp only [Act.put, List.setIfInBounds_toArray, List.set_cons_zero, List.set_cons_succ]; go_big_quiet_on)
              (go_big_quiet_want; refine quiet_call (.bool (nameB ar)) 45 #[.string ar] (fun W => ?_) (fun W hC => HNAME.out _ W H5.out hC) ?_; go_simp; simp only [Act.put, List.setIfInBounds_toArray, List.set_cons_zero, List.set_cons_succ]; go_big_quiet_on)
              (go_big_quiet_want; refine quiet_call (.bool true) 44 #[.bool (argF k), .string ar, .bool (nameB ar)] (fun W => ?_) (fun W hC => (F2.out W).mono (fun e w' h => ⟨h.1, h.2 ▸ hC⟩)) ?_; go_simp; simp only [Act.put, List.setIfInBounds_toArray, List.set_cons_zero, List.set_cons_succ]; go_big_quiet_on)
              (go_big_quiet_want; refine quiet_run (.bool true) (fun W hC => ?_) ?_; (obtain ⟨d4, d5, d6, dB⟩ := hC; go_simp); simp only [Act.put, List.setIfInBounds_toArray, List.set_cons_zero, List.set_cons_succ]; go_big_quiet_on)
              (go_big_quiet_want; refine quiet_run (.bool true) (fun W hC => ?_) ?_; (obtain ⟨d4, d5, d6, dB⟩ := hC; go_simp); simp only [Act.put, List.setIfInBounds_toArray, List.set_cons_zero, List.set_cons_succ]; go_big_quiet_on)
              (go_big_quiet_want; refine quiet_run (.bool (exnF k)) (fun W hC => ?_) ?_; (obtain ⟨d4, d5, d6, dB⟩ := hC; go_simp); simp only [Act.put, List.setIfInBounds_toArray, List.set_cons_zero, List.set_cons_succ]; go_big_quiet_on)
              (go_big_quiet_want; refine quiet_run (.pointer (some ⟨w.heap.size, 0, none⟩)) (fun W hC => ?_) ?_; (obtain ⟨d4, d5, d6, dB⟩ := hC; go_simp); simp only [Act.put, List.setIfInBounds_toArray, List.set_cons_zero, List.set_cons_succ]; go_big_quiet_on)
              (go_big_quiet_want; refine quiet_run (.pointer (some ⟨w.heap.size, 6, none⟩)) (fun W hC => ?_) ?_; (obtain ⟨d4, d5, d6, dB⟩ := hC; go_simp); simp only [Act.put, List.setIfInBounds_toArray, List.set_cons_zero, List.set_cons_succ]; go_big_quiet_on)
              (go_big_quiet_want; refine quiet_run (.string ex) (fun W hC => ?_) ?_; (obtain ⟨d4, d5, d6, dB⟩ := hC; go_simp); simp only [Act.put, List.setIfInBounds_toArray, List.set_cons_zero, List.set_cons_succ]; go_big_quiet_on)
              (go_big_quiet_want; refine quiet_run (.pointer (some ⟨w.heap.size, 0, none⟩)) (fun W hC => ?_) ?_; (obtain ⟨d4, d5, d6, dB⟩ := hC; go_simp); simp only [Act.put, List.setIfInBounds_toArray, List.set_cons_zero, List.set_cons_succ]; go_big_quiet_on)
              (go_big_quiet_want; refine quiet_run (.pointer (some ⟨w.heap.size, 6, none⟩)) (fun W hC => ?_) ?_; (obtain ⟨d4, d5, d6, dB⟩ := hC; go_simp); simp only [Act.put, List.setIfInBounds_toArray, List.set_cons_zero, List.set_cons_succ]; go_big_quiet_on)
              (go_big_quiet_want; refine quiet_run (.string ex) (fun W hC => ?_) ?_; (obtain ⟨d4, d5, d6, dB⟩ := hC; go_simp); simp only [Act.put, List.setIfInBounds_toArray, List.set_cons_zero, List.set_cons_succ]; go_big_quiet_on)
              (go_big_quiet_want; refine quiet_call (.bool (exnB ex)) 46 #[.string ex] (fun W => ?_) (fun W hC => HEXN.out _ W H6.out hC) ?_; go_simp; simp only [Act.put, List.setIfInBounds_toArray, List.set_cons_zero, List.set_cons_succ]; go_big_quiet_on)
              (go_big_quiet_want; refine quiet_call (.bool (fitsB (exnF k) ex (exnB ex))) 44 #[.bool (exnF k), .string ex, .bool (exnB ex)] (fun W => ?_) (fun W hC => (F3.out W).mono (fun e w' h => ⟨h.1, h.2 ▸ hC⟩)) ?_; go_simp; simp only [Act.put, List.setIfInBounds_toArray, List.set_cons_zero, List.set_cons_succ]; go_big_quiet_on)
              (go_big_quiet_want; refine quiet_run (.bool (fitsB (exnF k) ex (exnB ex))) (fun W hC => ?_) ?_; (obtain ⟨d4, d5, d6, dB⟩ := hC; go_simp); simp only [Act.put, List.setIfInBounds_toArray, List.set_cons_zero, List.set_cons_succ]; go_big_quiet_on)
              (go_big_quiet_want; refine quiet_run (.bool (fitsB (exnF k) ex (exnB ex))) (fun W hC => ?_) ?_; (obtain ⟨d4, d5, d6, dB⟩ := hC; go_simp); simp only [Act.put, List.setIfInBounds_toArray, List.set_cons_zero, List.set_cons_succ]; go_big_quiet_on)
              refine wpQuiet_nil ?_
              rintro w2 ⟨d4, d5, d6, dB⟩
              have DB := Lib.hid dB; clear d4 d5 d6 dB
              go_wp2_with (fail)
              go_ret
              exact ⟨ret_bool (by simp [H1.out, H2.out]), DB.out⟩
end Term
end Go.Proofs.YtkcadkjpneoobaaDoor
namespace Go.Proofs.YtkcadkjpneoobaaDoor
open Go.RowKit
set_option linter.unusedVariables false
namespace Term

theorem refNode_walk (h : Hd) (p : Option Addr) (l c : Nat) (w : World) (ho : HdOk h) (hl : l ≤ maxLen) :
    Calls Tryd.prog 34 #[.agg #[.int .u8 h.k, .int .u8 h.op, .int .i64 h.pl, .int .i64 h.n, .string h.name, .string h.arg, .string h.exn, .slice p l c]] w fun e w' => e = .returned (.bool (nodeB h l)) ∧ Below w.heap.size w w' := by
  obtain ⟨k, op, pl, nn, nm, ar, ex⟩ := h
  obtain ⟨h1, h2, h3, h4, h5, h6, h7⟩ := ho
  simp only at h1 h2 h3 h4 h5 h6 h7
  have hl' : l ≤ 9223372036854775807 := by unfold maxLen at hl; omega
  by_cases a1 : kidsN k = l ∧ 0 ≤ pl
  · by_cases a2 : opOk ⟨k, op, pl, nn, nm, ar, ex⟩
    · by_cases a3 : nOk ⟨k, op, pl, nn, nm, ar, ex⟩
      · rw [nodeB_yes (h := ⟨k, op, pl, nn, nm, ar, ex⟩) ⟨a1.1, a1.2, a2, a3⟩]
        refine node_fits k op pl nn nm ar ex p l c w h1 h2 hl' a1.1 a1.2 ?_ h5 h6 h7
        unfold opOk at a2
        unfold nOk at a3
        simp only at a2 a3
        by_cases e9 : k = 9
        · subst e9
          rw [if_pos rfl] at a2
          exact .inl ⟨by decide, by decide, by decide, a2.1, a2.2, a3.2.2 (by omega)⟩
        · rw [if_neg e9] at a2
          by_cases e1 : k = 1
          · subst e1
            exact .inr (.inl ⟨by decide, by decide, a2, by decide, a3.1, a3.2.1⟩)
          · exact .inr (.inr ⟨by simpa using e9, by simpa using e9, a2, by simpa using e1, a3.2.2 e1⟩)
      · rw [nodeB_no (h := ⟨k, op, pl, nn, nm, ar, ex⟩) (fun h => a3 h.2.2.2)]
        exact node_ns k op pl nn nm ar ex p l c w h1 h2 hl' a1.1 a1.2 a2 a3
    · rw [nodeB_no (h := ⟨k, op, pl, nn, nm, ar, ex⟩) (fun h => a2 h.2.2.1)]
      exact node_ops k op pl nn nm ar ex p l c w h1 h2 hl' a1.1 a1.2 a2
  · rw [nodeB_no (h := ⟨k, op, pl, nn, nm, ar, ex⟩) (fun h => a1 ⟨h.1, h.2.1⟩)]
    exact node_kids k op pl nn nm ar ex p l c w h1 hl' a1

def nodeOk (t : Tm) : Bool := nodeB t.h t.ks.length
theorem ok_all : ∀ m : Nat, (∀ t, wt t ≤ m → okT t = (flatT t).all nodeOk) ∧ (∀ ts, wts ts ≤ m → okK ts = (flatK ts).all nodeOk) := by
  intro m
  induction m with
  | zero =>
    refine ⟨fun t h => by have := wt_pos t; omega, fun ts h => ?_⟩
    cases ts with
    | nil => rw [flatK_nil, okK_nil]; rfl
    | cons t ts => rw [wts_cons] at h; have := wt_pos t; omega
  | succ m ih =>
    have hT : ∀ t, wt t ≤ m + 1 → okT t = (flatT t).all nodeOk := by
      intro t h
      have hk := wt_ks t
      rw [okT_eq, flatT_eq, List.all_cons, ih.2 t.ks (by omega)]
      rfl
    refine ⟨hT, fun ts => ?_⟩
    induction ts with
    | nil => intro _; rw [flatK_nil, okK_nil]; rfl
    | cons t ts ihs =>
      intro h
      rw [wts_cons] at h
      rw [okK_cons, flatK_cons, List.all_append, hT t (by omega), ihs (by omega)]
theorem mem_tget {F : List Tm} {t : Tm} (h : t ∈ F) : ∃ j, j < F.length ∧ tget F j = t := by
  obtain ⟨j, hj, e⟩ := List.getElem_of_mem h
  refine ⟨j, hj, ?_⟩
  have := tget_at hj
  rw [List.getElem?_eq_getElem hj, e] at this
  exact (Option.some.inj this).symm
theorem ok_no {t : Tm} {j : Nat} (hj : j < (flatT t).length) (h : nodeOk (tget (flatT t) j) = false) : okT t = false := by
  rw [(ok_all (wt t)).1 t (Nat.le_refl _), Bool.eq_false_iff]
  intro ha
  have := List.all_eq_true.1 ha _ (tget_mem hj)
  rw [h] at this
  cases this
theorem ok_yes {t : Tm} (h : ∀ j, j < (flatT t).length → nodeOk (tget (flatT t) j) = true) : okT t = true := by
  rw [(ok_all (wt t)).1 t (Nat.le_refl _), List.all_eq_true]
  intro x hx
  obtain ⟨j, hj, rfl⟩ := mem_tget hx
  exact h j hj

set_option maxRecDepth 10000 in
set_option maxHeartbeats 6400000 in
theorem refMay_walk (t : Tm) (h : Hd) (p : Option Addr) (l c : Nat) (w : World) (hT : TmIs w h p l c t) (hw : wt t ≤ 4000) :
    Calls Tryd.prog 18 #[.agg #[.int .u8 h.k, .int .u8 h.op, .int .i64 h.pl, .int .i64 h.n, .string h.name, .string h.arg, .string h.exn, .slice p l c]] w fun e w' => e = .returned (.bool (mayT t)) ∧ Below w.heap.size w w' := by
  have hr : mayT t = okT t := by unfold mayT; rw [decide_eq_true hw, Bool.true_and]
  have hbox : ∀ O : Obj, Below w.heap.size w (w.alloc O) := fun O => (Below.refl _ _).alloc (Nat.le_refl _) O
  have ha := fun O => refAll_walk (wt t) t h p l c w (w.alloc O) (Nat.le_refl _) (by omega) hT (hbox O)
  have hn := fun (h' : Hd) q l' c' W ho hl => refNode_walk h' q l' c' W ho hl
  obtain ⟨k, op, pl, nn, nm, ar, ex⟩ := h
  have hfl := flatT_len t
  have HR := Lib.hid hr; have HBOX := Lib.hid hbox; have HA := Lib.hid ha; have HN := Lib.hid hn; have HFLEN := Lib.hid hfl
  clear hr hbox ha hn hT hfl
  go_enter Tryd.func18, Tryd.ntmps18
  go_wp2_with (fail)
  refine (HA.out _).mono ?_
  rintro e w1 ⟨g, cc, xs, rfl, hown, hfx, hb1⟩
  have HB1 := Lib.hid ((HBOX.out _).trans (hb1.mono (HBOX.out _).size)); have HO := Lib.hid hown; have HFX := Lib.hid hfx
  clear hb1 hown hfx
  generalize hX : wt t = n at *
  have HX := Lib.hid hX
  clear hX
  go_wp2_with (fail)
  go_loopw [4, 12] (fun _ i wr => ∃ j : Nat, j ≤ n ∧ i = .int .i64 j ∧ Hid (∀ i, i < j → nodeOk (tget (flatT t) i) = true) ∧ Hid (Below w1.heap.size w1 wr)) (fun _ i _ => n - (intOf i).toNat)
  case atStart => exact ⟨0, Nat.zero_le _, rfl, Lib.hid (fun i hi => by omega), Lib.hid (Below.refl _ _)⟩
  case round =>
    obtain ⟨j, hj, rfl, HA2, HW⟩ := hrel
    by_cases hlt : j < n
    · have hjf : j < (flatT t).length := by rw [HFLEN.out]; exact hlt
      obtain ⟨q, c2, hkid, hcells⟩ := HFX.out.get j hjf
      have hrow := own_below HO.out HW.out
      have c0 := row_cell hrow (hcells 0 _ rfl); have c1 := row_cell hrow (hcells 1 _ rfl); have c2' := row_cell hrow (hcells 2 _ rfl); have c3 := row_cell hrow (hcells 3 _ rfl)
      have c4 := row_cell hrow (hcells 4 _ rfl); have c5 := row_cell hrow (hcells 5 _ rfl); have c6 := row_cell hrow (hcells 6 _ rfl); have c7 := row_cell hrow (hcells 7 _ rfl)
      rw [Nat.add_zero] at c0
      have hok := hkid.ok
      have hcap := Nat.le_trans hkid.cap.1 hkid.cap.2
      have HOK := Lib.hid hok; have HCAP := Lib.hid hcap; have HJ := Lib.hid hjf
      clear hok hcap hkid hcells hrow hjf
      go_wp2_with (fail)
      refine (HN.out (tget (flatT t) j).h q _ c2 _ HOK.out HCAP.out).mono ?_
      rintro e w2 ⟨rfl, hb2⟩
      have HW2 := Lib.hid (below_then HW.out hb2 HW.out.size)
      clear hb2 c0 c1 c2' c3 c4 c5 c6 c7
      have hd : nodeB (tget (flatT t) j).h (tget (flatT t) j).ks.length = nodeOk (tget (flatT t) j) := rfl
      rw [hd]
      clear hd
      cases ho : nodeOk (tget (flatT t) j)
      · have hno := ok_no HJ.out ho
        have HNO := Lib.hid hno
        clear hno ho
        go_wp2
        go_ret
        exact ⟨ret_bool (by rw [HR.out, HNO.out]), below_then HB1.out HW2.out HB1.out.size⟩
      · have HYES := Lib.hid ho
        clear ho
        go_wp2
        go_roundw
        case rel =>
          refine ⟨j + 1, by omega, by go_num, Lib.hid (fun i hi => ?_), HW2⟩
          by_cases hij : i = j
          · rw [hij]; exact HYES.out
          · exact HA2.out i (by omega)
        case measure => simp [intOf]; omega
    · obtain rfl : j = n := by omega
      have hyes := ok_yes (t := t) (fun i hi => HA2.out i (by rw [HFLEN.out] at hi; exact hi))
      have HYES := Lib.hid hyes
      clear hyes
      go_wp2
      go_ret
      exact ⟨ret_bool (by rw [HR.out, HYES.out]), below_then HB1.out HW.out HB1.out.size⟩
end Term
end Go.Proofs.YtkcadkjpneoobaaDoor
namespace Go.Proofs.YtkcadkjpneoobaaDoor
open Go.RowKit
set_option linter.unusedVariables false
namespace Term

/-- Is a text too long to be gone through? -/
def longB (h : Hd) : Bool := decide (100 < h.name.size ∨ 100 < h.arg.size ∨ 100 < h.exn.size)
mutual
def leftT : Tm → Int → Int
  | .node h l, n => if longB h = true then -1 else leftK l (n - 1)
def leftK : List Tm → Int → Int
  | [], n => n
  | t :: ts, n => if n < 0 then n else leftK ts (leftT t n)
end
theorem leftT_eq (t : Tm) (n : Int) : leftT t n = if longB t.h = true then -1 else leftK t.ks (n - 1) := by cases t; unfold leftT; rfl
theorem leftK_nil (n : Int) : leftK [] n = n := by unfold leftK; rfl
theorem leftK_cons (t : Tm) (ts : List Tm) (n : Int) : leftK (t :: ts) n = if n < 0 then n else leftK ts (leftT t n) := by conv => lhs; unfold leftK
theorem leftK_neg (ts : List Tm) (n : Int) (h : n < 0) : leftK ts n = n := by
  cases ts with
  | nil => exact leftK_nil n
  | cons t ts => rw [leftK_cons, if_pos h]
theorem leftK_step (ts : List Tm) (k : Nat) (n : Int) (h : k < ts.length) (hn : ¬ n < 0) : leftK (ts.drop k) n = leftK (ts.drop (k + 1)) (leftT (tget ts k) n) := by
  rw [drop_tget ts k h, leftK_cons, if_neg hn]
/-- It never rises, and is -1 at least. -/
theorem left_range : ∀ m : Nat, (∀ (t : Tm) (n : Int), wt t ≤ m → -1 ≤ n → -2 ≤ leftT t n ∧ (0 ≤ n → -1 ≤ leftT t n) ∧ leftT t n ≤ max n (-1)) ∧ (∀ (ts : List Tm) (n : Int), wts ts ≤ m → -1 ≤ n → -1 ≤ leftK ts n ∧ leftK ts n ≤ n) := by
  intro m
  induction m with
  | zero =>
    refine ⟨fun t n h => by have := wt_pos t; omega, fun ts n h hn => ?_⟩
    cases ts with
    | nil => rw [leftK_nil]; omega
    | cons t ts => rw [wts_cons] at h; have := wt_pos t; omega
  | succ m ih =>
    have hT : ∀ (t : Tm) (n : Int), wt t ≤ m + 1 → -1 ≤ n → -2 ≤ leftT t n ∧ (0 ≤ n → -1 ≤ leftT t n) ∧ leftT t n ≤ max n (-1) := by
      intro t n h hn
      rw [wt_ks] at h
      rw [leftT_eq]
      split
      · omega
      · by_cases h0 : 0 ≤ n
        · have := ih.2 t.ks (n - 1) (by omega) (by omega)
          omega
        · rw [leftK_neg _ _ (by omega)]
          omega
    refine ⟨hT, ?_⟩
    intro ts
    induction ts with
    | nil => intro n _ hn; rw [leftK_nil]; omega
    | cons t ts ihs =>
      intro n h hn
      rw [wts_cons] at h
      rw [leftK_cons]
      split
      · omega
      · rename_i h0
        have h1 := hT t n (by omega) hn
        have h2 := ihs (leftT t n) (by omega) (by omega)
        omega

set_option maxRecDepth 10000 in
set_option maxHeartbeats 3200000 in
theorem left_walk : ∀ (m : Nat) (t : Tm) (h : Hd) (p : Option Addr) (l c : Nat) (n : Int) (w : World), wt t ≤ m → TmIs w h p l c t → 0 ≤ n → n ≤ 400 →
    Calls Tryd.prog 29 #[.agg #[.int .u8 h.k, .int .u8 h.op, .int .i64 h.pl, .int .i64 h.n, .string h.name, .string h.arg, .string h.exn, .slice p l c], .int .i64 n] w fun e w' => e = .returned (.int .i64 (leftT t n)) ∧ Below w.heap.size w w' := by
  intro m
  induction m with
  | zero => intro t h p l c n w hm; have := wt_pos t; omega
  | succ m ih =>
    intro t h p l c n w hm hT hn0 hn1
    have hle := leftT_eq t n
    have hlr := fun N hN => (left_range (wts t.ks)).2 t.ks N (Nat.le_refl _) hN
    rw [hT.head] at hle
    obtain ⟨k, op, pl, nn, nm, ar, ex⟩ := h
    have s4 := hT.ok.name; have s5 := hT.ok.arg; have s6 := hT.ok.exn
    simp only at s4 s5 s6
    unfold maxLen at s4 s5 s6
    have hlc : l ≤ 9223372036854775807 := by have := hT.cap; unfold maxLen at this; omega
    have hbox : ∀ O : Obj, Below w.heap.size w (w.alloc O) := fun O => (Below.refl _ _).alloc (Nat.le_refl _) _
    have HBOX := Lib.hid hbox; have IH := Lib.hid ih; have HT := Lib.hid hT; have HM := Lib.hid hm
    clear ih hT hm hbox
    by_cases hlong : longB ⟨k, op, pl, nn, nm, ar, ex⟩ = true
    · rw [if_pos hlong] at hle
      have HLE := Lib.hid hle
      unfold longB at hlong
      have hl := of_decide_eq_true hlong
      simp only at hl
      clear hle hlong
      by_cases h4 : 100 < nm.size
      · clear hl
        go_enter Tryd.func29, Tryd.ntmps29
        go_wp2_with (fail)
        go_ret
        exact ⟨ret_i64 HLE.out.symm, HBOX.out _⟩
      by_cases h5 : 100 < ar.size
      · clear hl
        go_enter Tryd.func29, Tryd.ntmps29
        go_wp2_with (fail)
        go_ret
        exact ⟨ret_i64 HLE.out.symm, HBOX.out _⟩
      have h6 : 100 < ex.size := by omega
      clear hl
      go_enter Tryd.func29, Tryd.ntmps29
      go_wp2_with (fail)
      go_ret
      exact ⟨ret_i64 HLE.out.symm, HBOX.out _⟩
    · rw [if_neg hlong] at hle
      have HLE := Lib.hid hle
      unfold longB at hlong
      have hl : ¬ (100 < nm.size ∨ 100 < ar.size ∨ 100 < ex.size) := fun h => hlong (decide_eq_true h)
      have h4 : ¬ 100 < nm.size := by omega
      have h5 : ¬ 100 < ar.size := by omega
      have h6 : ¬ 100 < ex.size := by omega
      clear hle hlong hl
      go_enter Tryd.func29, Tryd.ntmps29
      go_wp2_with (fail)
      go_loopw [1, 5] (fun N i wr => ∃ (j : Nat) (M : Int), j ≤ l ∧ i = .int .i64 j ∧ N = .int .i64 M ∧ -1 ≤ M ∧ M ≤ 400 ∧ leftK t.ks (n - 1) = leftK (t.ks.drop j) M ∧
        Below (w.alloc (.cells #[.int .u8 k, .int .u8 op, .int .i64 pl, .int .i64 nn, .string nm, .string ar, .string ex, .slice p l c] 27)).heap.size (w.alloc (.cells #[.int .u8 k, .int .u8 op, .int .i64 pl, .int .i64 nn, .string nm, .string ar, .string ex, .slice p l c] 27)) wr) (fun _ i _ => l - (intOf i).toNat)
      case atStart => exact ⟨0, n - 1, Nat.zero_le _, rfl, rfl, by omega, by omega, by rw [List.drop_zero], Below.refl _ _⟩
      case round =>
        obtain ⟨j, M, hj, rfl, rfl, hM0, hM1, hLK, hw⟩ := hrel
        have HLK := Lib.hid hLK; have HW := Lib.hid hw
        have b7 := boxAt hw 7 rfl
        clear hLK hw
        have HWW := Lib.hid ((HBOX.out _).trans (HW.out.mono (HBOX.out _).size))
        by_cases hlt : j < l
        · by_cases hneg : M < 0
          · have hr := HLK.out
            rw [leftK_neg _ _ hneg] at hr
            have HR := Lib.hid hr; clear hr
            go_wp2_with (fail)
            go_ret
            exact ⟨ret_i64 (by rw [HLE.out, HR.out]), HWW.out⟩
          · have hjk : j < t.ks.length := by rw [HT.out.len]; exact hlt
            have hst := HLK.out
            rw [leftK_step _ _ _ hjk hneg] at hst
            obtain ⟨b, o, q, c', rfl, hkid, c0, c1, c2, c3, c4, c5, c6, c7⟩ := (HT.out.kids.stay HWW.out).get j hjk
            have hwk := wts_get hjk
            have hwt := wt_ks t
            have hlw := left_range (wt (tget t.ks j))
            have hlr1 := hlw.1 (tget t.ks j) M (Nat.le_refl _) hM0
            have HST := Lib.hid hst; have HK := Lib.hid hkid
            have HWK := Lib.hid hwk; have HWT := Lib.hid hwt; have HLR := Lib.hid hlr1
            clear hst hkid hwk hwt hlw hlr1 hjk hlr
            go_wp2_with (fail)
            refine (IH.out (tget t.ks j) _ q _ c' M _ (by have := HM.out; have := HWK.out; have := HWT.out; omega) HK.out (by omega) hM1).mono ?_
            rintro e w2 ⟨rfl, hb2⟩
            have HW2 := Lib.hid (HW.out.trans (hb2.mono HW.out.size))
            clear hb2 b7 c0 c1 c2 c3 c4 c5 c6 c7
            have hx0 : -1 ≤ leftT (tget t.ks j) M := HLR.out.2.1 (by omega)
            have hx1 : leftT (tget t.ks j) M ≤ 400 := by have := HLR.out.2.2; omega
            generalize hX : leftT (tget t.ks j) M = X at *
            have HX := Lib.hid hX; clear hX
            go_wp2
            go_roundw
            case rel => exact ⟨j + 1, X, by omega, by go_num, rfl, hx0, hx1, HST.out, HW2.out⟩
            case measure => simp [intOf]; omega
        · obtain rfl : j = l := by omega
          have hr := HLK.out
          rw [List.drop_eq_nil_of_le (by rw [HT.out.len]; exact Nat.le_refl _), leftK_nil] at hr
          have HR := Lib.hid hr; clear hr
          go_wp2_with (fail)
          go_ret
          exact ⟨ret_i64 (by rw [HLE.out, HR.out]), HWW.out⟩

/-- Is it more than is gone through? -/
def greatB (t : Tm) : Bool := decide (leftT t 400 < 0)
theorem great_walk (t : Tm) (h : Hd) (p : Option Addr) (l c : Nat) (w : World) (hT : TmIs w h p l c t) :
    Calls Tryd.prog 12 #[.agg #[.int .u8 h.k, .int .u8 h.op, .int .i64 h.pl, .int .i64 h.n, .string h.name, .string h.arg, .string h.exn, .slice p l c]] w fun e w' => e = .returned (.bool (greatB t)) ∧ Below w.heap.size w w' := by
  obtain ⟨k, op, pl, nn, nm, ar, ex⟩ := h
  have hbox : ∀ O : Obj, Below w.heap.size w (w.alloc O) := fun O => (Below.refl _ _).alloc (Nat.le_refl _) _
  have HBOX := Lib.hid hbox; have HT := Lib.hid hT
  clear hT hbox
  go_enter Tryd.func12, Tryd.ntmps12
  go_wp2_with (fail)
  refine (left_walk _ t _ p l c 400 _ (Nat.le_refl _) (HT.out.below (HBOX.out _)) (by omega) (by omega)).mono ?_
  rintro e w1 ⟨rfl, hb⟩
  have HB := Lib.hid ((HBOX.out _).trans (hb.mono (HBOX.out _).size)); clear hb
  have hg : greatB t = decide (leftT t 400 < 0) := rfl
  have HG := Lib.hid hg; clear hg
  generalize leftT t 400 = X at *
  go_wp2
  go_ret
  exact ⟨ret_bool HG.out.symm, HB.out⟩

/-! ### What is not great is small -/
mutual
/-- Are all texts short? -/
def shortT : Tm → Prop
  | .node h l => longB h = false ∧ shortK l
def shortK : List Tm → Prop
  | [] => True
  | t :: ts => shortT t ∧ shortK ts
end
theorem shortT_eq (t : Tm) : shortT t = (longB t.h = false ∧ shortK t.ks) := by cases t; unfold shortT; rfl
theorem shortK_cons (t : Tm) (ts : List Tm) : shortK (t :: ts) = (shortT t ∧ shortK ts) := by conv => lhs; unfold shortK
theorem left_small : ∀ m : Nat, (∀ (t : Tm) (n : Int), wt t ≤ m → 0 ≤ n → 0 ≤ leftT t n → leftT t n = n - wt t ∧ shortT t) ∧ (∀ (ts : List Tm) (n : Int), wts ts ≤ m → 0 ≤ n → 0 ≤ leftK ts n → leftK ts n = n - wts ts ∧ shortK ts) := by
  intro m
  induction m with
  | zero =>
    refine ⟨fun t n h => by have := wt_pos t; omega, fun ts n h hn _ => ?_⟩
    cases ts with
    | nil => rw [leftK_nil, wts_nil]; exact ⟨by omega, by unfold shortK; trivial⟩
    | cons t ts => rw [wts_cons] at h; have := wt_pos t; omega
  | succ m ih =>
    have hT : ∀ (t : Tm) (n : Int), wt t ≤ m + 1 → 0 ≤ n → 0 ≤ leftT t n → leftT t n = n - wt t ∧ shortT t := by
      intro t n h hn h0
      rw [leftT_eq] at h0 ⊢
      rw [shortT_eq]
      cases hl : longB t.h
      · rw [hl] at h0
        simp only [Bool.false_eq_true, if_false] at h0 ⊢
        by_cases hn1 : n - 1 < 0
        · rw [leftK_neg _ _ hn1] at h0; omega
        · have hk := wt_ks t
          obtain ⟨h1, h2⟩ := ih.2 t.ks (n - 1) (by omega) (by omega) h0
          exact ⟨by omega, trivial, h2⟩
      · rw [hl] at h0
        simp at h0
    refine ⟨hT, ?_⟩
    intro ts
    induction ts with
    | nil => intro n _ hn _; rw [leftK_nil, wts_nil]; exact ⟨by omega, by unfold shortK; trivial⟩
    | cons t ts ihs =>
      intro n h hn h0
      rw [wts_cons] at h ⊢
      rw [leftK_cons] at h0 ⊢
      rw [shortK_cons]
      rw [if_neg (by omega)] at h0 ⊢
      by_cases hx : leftT t n < 0
      · rw [leftK_neg _ _ hx] at h0; omega
      · obtain ⟨h1, h2⟩ := hT t n (by omega) hn (by omega)
        obtain ⟨h3, h4⟩ := ihs (leftT t n) (by omega) (by omega) h0
        exact ⟨by omega, h2, h4⟩
/-- What is not great has 400 nodes at most, and short texts. -/
theorem small_of {t : Tm} (h : greatB t = false) : wt t ≤ 400 ∧ shortT t := by
  unfold greatB at h
  have h' := of_decide_eq_false h
  obtain ⟨h1, h2⟩ := (left_small (wt t)).1 t 400 (Nat.le_refl _) (by omega) (by omega)
  exact ⟨by omega, h2⟩
end Term
end Go.Proofs.YtkcadkjpneoobaaDoor
