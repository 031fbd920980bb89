/-The walks of the document's May and Same of types. Unification: a book, by what it makes the same; the calls in these words. Unification: what the document's example and the statements lean on: one variable that stands for a type; rows that are made on the spot. -/
import Derived.Test.YtjchplgapaeagaaDoorGV26
import Derived.BigQuiet
namespace Go.Proofs.YtjchplgapaeagaaDoor
open Go.RowKit
set_option linter.unusedVariables false
namespace Types

theorem mayK_nil : mayK [] = true := allK_nil _
theorem mayK_step (ts : List Ty) (j : Nat) (h : j < ts.length) : mayK (ts.drop j) = (mayT (tget ts j) && mayK (ts.drop (j + 1))) := allK_step _ ts j h
theorem mayT_eq (t : Ty) : mayT t = (nodeB t.h t.ks.length && mayK t.ks) := allT_eq _ t
set_option maxRecDepth 10000 in
set_option maxHeartbeats 12800000 in
theorem refMay_walk : ∀ (m : Nat) (t : Ty) (h : Hd) (p : Option Addr) (l c : Nat) (w : World), wt t ≤ m → TyIs w h p l c t →
    Calls Tryd.prog 21 #[.agg #[.int .u8 h.k, .int .i64 h.v, .slice p l c]] w fun e w' => e = .returned (.bool (mayT t)) ∧ Below w.heap.size w w' := by
  intro m
  induction m with
  | zero => intro t h p l c w hm; have := wt_pos t; omega
  | succ m ih =>
    intro t h p l c w hm hT
    have hle := mayT_eq t
    rw [hT.head, hT.len] at hle
    have hlc := cap63 hT
    have hbox : ∀ O : Obj, Below w.heap.size w (w.alloc O) := fun O => box_new O
    have hkr := hT.ok.k
    have hvr := hT.ok.v
    obtain ⟨k, v⟩ := h
    simp only at hkr hvr
    have HBOX := Lib.hid hbox; have IH := Lib.hid ih; have HT := Lib.hid hT; have HM := Lib.hid hm; have HLE := Lib.hid hle
    clear ih hT hm hbox hle
    have hcase : k = 1 ∨ k = 2 ∨ k = 3 ∨ k = 4 ∨ k = 5 ∨ (k ≠ 1 ∧ k ≠ 2 ∧ k ≠ 3 ∧ k ≠ 4 ∧ k ≠ 5) := by omega
    rcases hcase with rfl | rfl | rfl | rfl | rfl | ⟨h1, h2, h3, h4, h5⟩
    · by_cases hln : l = 0
      · subst hln
        have hcv : v = 0 ∨ 0 < v ∨ v < 0 := by omega
        rcases hcv with rfl | hv | hv
        · have hr : mayT t = mayK t.ks := by rw [HLE.out]; unfold nodeB kidsN; rw [decide_eq_true (by simp)]; simp
          have HR := Lib.hid hr
          clear hr
          go_enter Tryd.func21, Tryd.ntmps21
          go_wp2_with (fail)
          go_loopw [4, 38] (fun _ i wr => ∃ (j : Nat), j ≤ 0 ∧ i = .int .i64 j ∧ Hid (mayK t.ks = mayK (t.ks.drop j)) ∧
            Hid (Below (w.alloc (.cells #[.int .u8 1, .int .i64 0, .slice p 0 c] 25)).heap.size (w.alloc (.cells #[.int .u8 1, .int .i64 0, .slice p 0 c] 25)) wr)) (fun _ i _ => 0 - (intOf i).toNat)
          case atStart => exact ⟨0, Nat.zero_le _, rfl, Lib.hid (by rw [List.drop_zero]), Lib.hid (Below.refl _ _)⟩
          case round =>
            obtain ⟨j, hj, rfl, HLK, HW⟩ := hrel
            obtain ⟨b0, b1, b2⟩ := box3 (N := w.heap.size) rfl HW.out
            have HWW := Lib.hid ((HBOX.out _).trans (HW.out.mono (HBOX.out _).size))
            by_cases hlt : j < 0
            · exact absurd hlt (Nat.not_lt_zero _)
            · obtain rfl : j = 0 := by omega
              have hr := HLK.out
              rw [List.drop_eq_nil_of_le (by rw [HT.out.len]; exact Nat.le_refl _), mayK_nil] at hr
              have HR2 := Lib.hid hr; clear hr
              go_wp2_with (fail)
              go_ret
              exact ⟨ret_bool (by rw [HR.out, HR2.out]), HWW.out⟩
        · have hr : mayT t = false := by rw [HLE.out]; unfold nodeB kidsN; rw [decide_eq_false (by simp; omega)]; rfl
          have HR := Lib.hid hr
          have z1 : ¬ v < 0 := by omega
          have z2 : decide (v < 0) = false := decide_eq_false z1
          have z3 : decide (0 < v) = true := decide_eq_true hv
          clear hr HT IH HM HLE
          go_enter Tryd.func21, Tryd.ntmps21
          go_wp2_with (fail)
          go_ret
          exact ⟨ret_bool HR.out.symm, HBOX.out _⟩
        · have hr : mayT t = false := by rw [HLE.out]; unfold nodeB kidsN; rw [decide_eq_false (by simp; omega)]; rfl
          have HR := Lib.hid hr
          have z3 : decide (v < 0) = true := decide_eq_true hv
          clear hr HT IH HM HLE
          go_enter Tryd.func21, Tryd.ntmps21
          go_wp2_with (fail)
          go_ret
          exact ⟨ret_bool HR.out.symm, HBOX.out _⟩
      · have hr : mayT t = false := by rw [HLE.out]; unfold nodeB kidsN; rw [decide_eq_false (by simp; omega)]; rfl
        have HR := Lib.hid hr
        have b0 : ((l : Int) != 0) = true := by rw [bne_iff_ne]; omega
        clear hr HT IH HM HLE
        go_enter Tryd.func21, Tryd.ntmps21
        go_wp2_with (fail)
        go_ret
        exact ⟨ret_bool HR.out.symm, HBOX.out _⟩
    · by_cases hln : l = 2
      · subst hln
        have hcv : v = 0 ∨ 0 < v ∨ v < 0 := by omega
        rcases hcv with rfl | hv | hv
        · have hr : mayT t = mayK t.ks := by rw [HLE.out]; unfold nodeB kidsN; rw [decide_eq_true (by simp)]; simp
          have HR := Lib.hid hr
          clear hr
          go_enter Tryd.func21, Tryd.ntmps21
          go_wp2_with (fail)
          go_loopw [4, 38] (fun _ i wr => ∃ (j : Nat), j ≤ 2 ∧ i = .int .i64 j ∧ Hid (mayK t.ks = mayK (t.ks.drop j)) ∧
            Hid (Below (w.alloc (.cells #[.int .u8 2, .int .i64 0, .slice p 2 c] 25)).heap.size (w.alloc (.cells #[.int .u8 2, .int .i64 0, .slice p 2 c] 25)) wr)) (fun _ i _ => 2 - (intOf i).toNat)
          case atStart => exact ⟨0, Nat.zero_le _, rfl, Lib.hid (by rw [List.drop_zero]), Lib.hid (Below.refl _ _)⟩
          case round =>
            obtain ⟨j, hj, rfl, HLK, HW⟩ := hrel
            obtain ⟨b0, b1, b2⟩ := box3 (N := w.heap.size) rfl HW.out
            have HWW := Lib.hid ((HBOX.out _).trans (HW.out.mono (HBOX.out _).size))
            by_cases hlt : j < 2
            · have hjk : j < t.ks.length := by rw [HT.out.len]; exact hlt
              have hst := HLK.out
              rw [mayK_step _ _ hjk] at hst
              obtain ⟨b, o, q, c', rfl, hkid, c0, c1, c2⟩ := (HT.out.kids.stay HWW.out).get j hjk
              have hwk := wts_get hjk
              have hwt := wt_ks t
              have HST := Lib.hid hst; have HK := Lib.hid hkid
              have HWK := Lib.hid hwk; have HWT := Lib.hid hwt
              clear hst hkid hwk hwt hjk
              go_wp2_with (fail)
              refine (IH.out (tget t.ks j) _ q _ c' _ (by have := HM.out; have := HWK.out; have := HWT.out; omega) HK.out).mono ?_
              rintro e w2 ⟨rfl, hb2⟩
              have HW2 := Lib.hid (HW.out.trans (hb2.mono HW.out.size))
              have HWW2 := Lib.hid (HWW.out.trans (hb2.mono HWW.out.size))
              clear hb2 b0 b1 b2 c0 c1 c2
              cases hX : mayT (tget t.ks j)
              · have hs := HST.out
                rw [hX, Bool.false_and] at hs
                have HS := Lib.hid hs
                clear hs hX
                go_wp2
                go_ret
                exact ⟨ret_bool (by rw [HR.out, HS.out]), HWW2.out⟩
              · have hs := HST.out
                rw [hX, Bool.true_and] at hs
                have HS := Lib.hid hs
                clear hs hX
                go_wp2
                go_roundw
                case rel => exact ⟨j + 1, by omega, by go_num, HS, HW2⟩
                case measure => first | (simp [intOf]; done) | (simp [intOf]; omega)
            · obtain rfl : j = 2 := by omega
              have hr := HLK.out
              rw [List.drop_eq_nil_of_le (by rw [HT.out.len]; exact Nat.le_refl _), mayK_nil] at hr
              have HR2 := Lib.hid hr; clear hr
              go_wp2_with (fail)
              go_ret
              exact ⟨ret_bool (by rw [HR.out, HR2.out]), HWW.out⟩
        · have hr : mayT t = false := by rw [HLE.out]; unfold nodeB kidsN; rw [decide_eq_false (by simp; omega)]; rfl
          have HR := Lib.hid hr
          have z1 : ¬ v < 0 := by omega
          have z2 : decide (v < 0) = false := decide_eq_false z1
          have z3 : decide (0 < v) = true := decide_eq_true hv
          clear hr HT IH HM HLE
          go_enter Tryd.func21, Tryd.ntmps21
          go_wp2_with (fail)
          go_ret
          exact ⟨ret_bool HR.out.symm, HBOX.out _⟩
        · have hr : mayT t = false := by rw [HLE.out]; unfold nodeB kidsN; rw [decide_eq_false (by simp; omega)]; rfl
          have HR := Lib.hid hr
          have z3 : decide (v < 0) = true := decide_eq_true hv
          clear hr HT IH HM HLE
          go_enter Tryd.func21, Tryd.ntmps21
          go_wp2_with (fail)
          go_ret
          exact ⟨ret_bool HR.out.symm, HBOX.out _⟩
      · have hr : mayT t = false := by rw [HLE.out]; unfold nodeB kidsN; rw [decide_eq_false (by simp; omega)]; rfl
        have HR := Lib.hid hr
        have b0 : ((l : Int) != 2) = true := by rw [bne_iff_ne]; omega
        clear hr HT IH HM HLE
        go_enter Tryd.func21, Tryd.ntmps21
        go_wp2_with (fail)
        go_ret
        exact ⟨ret_bool HR.out.symm, HBOX.out _⟩
    · by_cases hln : l = 1
      · subst hln
        have hcv : v = 0 ∨ 0 < v ∨ v < 0 := by omega
        rcases hcv with rfl | hv | hv
        · have hr : mayT t = mayK t.ks := by rw [HLE.out]; unfold nodeB kidsN; rw [decide_eq_true (by simp)]; simp
          have HR := Lib.hid hr
          clear hr
          go_enter Tryd.func21, Tryd.ntmps21
          go_wp2_with (fail)
          go_loopw [4, 38] (fun _ i wr => ∃ (j : Nat), j ≤ 1 ∧ i = .int .i64 j ∧ Hid (mayK t.ks = mayK (t.ks.drop j)) ∧
            Hid (Below (w.alloc (.cells #[.int .u8 3, .int .i64 0, .slice p 1 c] 25)).heap.size (w.alloc (.cells #[.int .u8 3, .int .i64 0, .slice p 1 c] 25)) wr)) (fun _ i _ => 1 - (intOf i).toNat)
          case atStart => exact ⟨0, Nat.zero_le _, rfl, Lib.hid (by rw [List.drop_zero]), Lib.hid (Below.refl _ _)⟩
          case round =>
            obtain ⟨j, hj, rfl, HLK, HW⟩ := hrel
            obtain ⟨b0, b1, b2⟩ := box3 (N := w.heap.size) rfl HW.out
            have HWW := Lib.hid ((HBOX.out _).trans (HW.out.mono (HBOX.out _).size))
            by_cases hlt : j < 1
            · have hjk : j < t.ks.length := by rw [HT.out.len]; exact hlt
              have hst := HLK.out
              rw [mayK_step _ _ hjk] at hst
              obtain ⟨b, o, q, c', rfl, hkid, c0, c1, c2⟩ := (HT.out.kids.stay HWW.out).get j hjk
              have hwk := wts_get hjk
              have hwt := wt_ks t
              have HST := Lib.hid hst; have HK := Lib.hid hkid
              have HWK := Lib.hid hwk; have HWT := Lib.hid hwt
              clear hst hkid hwk hwt hjk
              go_wp2_with (fail)
              refine (IH.out (tget t.ks j) _ q _ c' _ (by have := HM.out; have := HWK.out; have := HWT.out; omega) HK.out).mono ?_
              rintro e w2 ⟨rfl, hb2⟩
              have HW2 := Lib.hid (HW.out.trans (hb2.mono HW.out.size))
              have HWW2 := Lib.hid (HWW.out.trans (hb2.mono HWW.out.size))
              clear hb2 b0 b1 b2 c0 c1 c2
              cases hX : mayT (tget t.ks j)
              · have hs := HST.out
                rw [hX, Bool.false_and] at hs
                have HS := Lib.hid hs
                clear hs hX
                go_wp2
                go_ret
                exact ⟨ret_bool (by rw [HR.out, HS.out]), HWW2.out⟩
              · have hs := HST.out
                rw [hX, Bool.true_and] at hs
                have HS := Lib.hid hs
                clear hs hX
                go_wp2
                go_roundw
                case rel => exact ⟨j + 1, by omega, by go_num, HS, HW2⟩
                case measure => first | (simp [intOf]; done) | (simp [intOf]; omega)
            · obtain rfl : j = 1 := by omega
              have hr := HLK.out
              rw [List.drop_eq_nil_of_le (by rw [HT.out.len]; exact Nat.le_refl _), mayK_nil] at hr
              have HR2 := Lib.hid hr; clear hr
              go_wp2_with (fail)
              go_ret
              exact ⟨ret_bool (by rw [HR.out, HR2.out]), HWW.out⟩
        · have hr : mayT t = false := by rw [HLE.out]; unfold nodeB kidsN; rw [decide_eq_false (by simp; omega)]; rfl
          have HR := Lib.hid hr
          have z1 : ¬ v < 0 := by omega
          have z2 : decide (v < 0) = false := decide_eq_false z1
          have z3 : decide (0 < v) = true := decide_eq_true hv
          clear hr HT IH HM HLE
          go_enter Tryd.func21, Tryd.ntmps21
          go_wp2_with (fail)
          go_ret
          exact ⟨ret_bool HR.out.symm, HBOX.out _⟩
        · have hr : mayT t = false := by rw [HLE.out]; unfold nodeB kidsN; rw [decide_eq_false (by simp; omega)]; rfl
          have HR := Lib.hid hr
          have z3 : decide (v < 0) = true := decide_eq_true hv
          clear hr HT IH HM HLE
          go_enter Tryd.func21, Tryd.ntmps21
          go_wp2_with (fail)
          go_ret
          exact ⟨ret_bool HR.out.symm, HBOX.out _⟩
      · have hr : mayT t = false := by rw [HLE.out]; unfold nodeB kidsN; rw [decide_eq_false (by simp; omega)]; rfl
        have HR := Lib.hid hr
        have b0 : ((l : Int) != 1) = true := by rw [bne_iff_ne]; omega
        clear hr HT IH HM HLE
        go_enter Tryd.func21, Tryd.ntmps21
        go_wp2_with (fail)
        go_ret
        exact ⟨ret_bool HR.out.symm, HBOX.out _⟩
    · by_cases hln : l = 2
      · subst hln
        have hcv : v = 0 ∨ 0 < v ∨ v < 0 := by omega
        rcases hcv with rfl | hv | hv
        · have hr : mayT t = mayK t.ks := by rw [HLE.out]; unfold nodeB kidsN; rw [decide_eq_true (by simp)]; simp
          have HR := Lib.hid hr
          clear hr
          go_enter Tryd.func21, Tryd.ntmps21
          go_wp2_with (fail)
          go_loopw [4, 38] (fun _ i wr => ∃ (j : Nat), j ≤ 2 ∧ i = .int .i64 j ∧ Hid (mayK t.ks = mayK (t.ks.drop j)) ∧
            Hid (Below (w.alloc (.cells #[.int .u8 4, .int .i64 0, .slice p 2 c] 25)).heap.size (w.alloc (.cells #[.int .u8 4, .int .i64 0, .slice p 2 c] 25)) wr)) (fun _ i _ => 2 - (intOf i).toNat)
          case atStart => exact ⟨0, Nat.zero_le _, rfl, Lib.hid (by rw [List.drop_zero]), Lib.hid (Below.refl _ _)⟩
          case round =>
            obtain ⟨j, hj, rfl, HLK, HW⟩ := hrel
            obtain ⟨b0, b1, b2⟩ := box3 (N := w.heap.size) rfl HW.out
            have HWW := Lib.hid ((HBOX.out _).trans (HW.out.mono (HBOX.out _).size))
            by_cases hlt : j < 2
            · have hjk : j < t.ks.length := by rw [HT.out.len]; exact hlt
              have hst := HLK.out
              rw [mayK_step _ _ hjk] at hst
              obtain ⟨b, o, q, c', rfl, hkid, c0, c1, c2⟩ := (HT.out.kids.stay HWW.out).get j hjk
              have hwk := wts_get hjk
              have hwt := wt_ks t
              have HST := Lib.hid hst; have HK := Lib.hid hkid
              have HWK := Lib.hid hwk; have HWT := Lib.hid hwt
              clear hst hkid hwk hwt hjk
              go_wp2_with (fail)
              refine (IH.out (tget t.ks j) _ q _ c' _ (by have := HM.out; have := HWK.out; have := HWT.out; omega) HK.out).mono ?_
              rintro e w2 ⟨rfl, hb2⟩
              have HW2 := Lib.hid (HW.out.trans (hb2.mono HW.out.size))
              have HWW2 := Lib.hid (HWW.out.trans (hb2.mono HWW.out.size))
              clear hb2 b0 b1 b2 c0 c1 c2
              cases hX : mayT (tget t.ks j)
              · have hs := HST.out
                rw [hX, Bool.false_and] at hs
                have HS := Lib.hid hs
                clear hs hX
                go_wp2
                go_ret
                exact ⟨ret_bool (by rw [HR.out, HS.out]), HWW2.out⟩
              · have hs := HST.out
                rw [hX, Bool.true_and] at hs
                have HS := Lib.hid hs
                clear hs hX
                go_wp2
                go_roundw
                case rel => exact ⟨j + 1, by omega, by go_num, HS, HW2⟩
                case measure => first | (simp [intOf]; done) | (simp [intOf]; omega)
            · obtain rfl : j = 2 := by omega
              have hr := HLK.out
              rw [List.drop_eq_nil_of_le (by rw [HT.out.len]; exact Nat.le_refl _), mayK_nil] at hr
              have HR2 := Lib.hid hr; clear hr
              go_wp2_with (fail)
              go_ret
              exact ⟨ret_bool (by rw [HR.out, HR2.out]), HWW.out⟩
        · have hr : mayT t = false := by rw [HLE.out]; unfold nodeB kidsN; rw [decide_eq_false (by simp; omega)]; rfl
          have HR := Lib.hid hr
          have z1 : ¬ v < 0 := by omega
          have z2 : decide (v < 0) = false := decide_eq_false z1
          have z3 : decide (0 < v) = true := decide_eq_true hv
          clear hr HT IH HM HLE
          go_enter Tryd.func21, Tryd.ntmps21
          go_wp2_with (fail)
          go_ret
          exact ⟨ret_bool HR.out.symm, HBOX.out _⟩
        · have hr : mayT t = false := by rw [HLE.out]; unfold nodeB kidsN; rw [decide_eq_false (by simp; omega)]; rfl
          have HR := Lib.hid hr
          have z3 : decide (v < 0) = true := decide_eq_true hv
          clear hr HT IH HM HLE
          go_enter Tryd.func21, Tryd.ntmps21
          go_wp2_with (fail)
          go_ret
          exact ⟨ret_bool HR.out.symm, HBOX.out _⟩
      · have hr : mayT t = false := by rw [HLE.out]; unfold nodeB kidsN; rw [decide_eq_false (by simp; omega)]; rfl
        have HR := Lib.hid hr
        have b0 : ((l : Int) != 2) = true := by rw [bne_iff_ne]; omega
        clear hr HT IH HM HLE
        go_enter Tryd.func21, Tryd.ntmps21
        go_wp2_with (fail)
        go_ret
        exact ⟨ret_bool HR.out.symm, HBOX.out _⟩
    · by_cases hln : l = 0
      · subst hln
        have hcv : v = 0 ∨ 0 < v ∨ v < 0 := by omega
        rcases hcv with rfl | hv | hv
        · have hr : mayT t = mayK t.ks := by rw [HLE.out]; unfold nodeB kidsN; rw [decide_eq_true (by simp)]; simp
          have HR := Lib.hid hr
          clear hr
          go_enter Tryd.func21, Tryd.ntmps21
          go_wp2_with (fail)
          go_loopw [4, 38] (fun _ i wr => ∃ (j : Nat), j ≤ 0 ∧ i = .int .i64 j ∧ Hid (mayK t.ks = mayK (t.ks.drop j)) ∧
            Hid (Below (w.alloc (.cells #[.int .u8 5, .int .i64 0, .slice p 0 c] 25)).heap.size (w.alloc (.cells #[.int .u8 5, .int .i64 0, .slice p 0 c] 25)) wr)) (fun _ i _ => 0 - (intOf i).toNat)
          case atStart => exact ⟨0, Nat.zero_le _, rfl, Lib.hid (by rw [List.drop_zero]), Lib.hid (Below.refl _ _)⟩
          case round =>
            obtain ⟨j, hj, rfl, HLK, HW⟩ := hrel
            obtain ⟨b0, b1, b2⟩ := box3 (N := w.heap.size) rfl HW.out
            have HWW := Lib.hid ((HBOX.out _).trans (HW.out.mono (HBOX.out _).size))
            by_cases hlt : j < 0
            · exact absurd hlt (Nat.not_lt_zero _)
            · obtain rfl : j = 0 := by omega
              have hr := HLK.out
              rw [List.drop_eq_nil_of_le (by rw [HT.out.len]; exact Nat.le_refl _), mayK_nil] at hr
              have HR2 := Lib.hid hr; clear hr
              go_wp2_with (fail)
              go_ret
              exact ⟨ret_bool (by rw [HR.out, HR2.out]), HWW.out⟩
        · have hr : mayT t = mayK t.ks := by rw [HLE.out]; unfold nodeB kidsN; rw [decide_eq_true (by simp; omega)]; simp
          have HR := Lib.hid hr
          have z1 : ¬ v < 0 := by omega
          have z2 : decide (v < 0) = false := decide_eq_false z1
          have z3 : decide (0 < v) = true := decide_eq_true hv
          clear hr
          go_enter Tryd.func21, Tryd.ntmps21
          go_wp2_with (fail)
          go_loopw [4, 38] (fun _ i wr => ∃ (j : Nat), j ≤ 0 ∧ i = .int .i64 j ∧ Hid (mayK t.ks = mayK (t.ks.drop j)) ∧
            Hid (Below (w.alloc (.cells #[.int .u8 5, .int .i64 v, .slice p 0 c] 25)).heap.size (w.alloc (.cells #[.int .u8 5, .int .i64 v, .slice p 0 c] 25)) wr)) (fun _ i _ => 0 - (intOf i).toNat)
          case atStart => exact ⟨0, Nat.zero_le _, rfl, Lib.hid (by rw [List.drop_zero]), Lib.hid (Below.refl _ _)⟩
          case round =>
            obtain ⟨j, hj, rfl, HLK, HW⟩ := hrel
            obtain ⟨b0, b1, b2⟩ := box3 (N := w.heap.size) rfl HW.out
            have HWW := Lib.hid ((HBOX.out _).trans (HW.out.mono (HBOX.out _).size))
            by_cases hlt : j < 0
            · exact absurd hlt (Nat.not_lt_zero _)
            · obtain rfl : j = 0 := by omega
              have hr := HLK.out
              rw [List.drop_eq_nil_of_le (by rw [HT.out.len]; exact Nat.le_refl _), mayK_nil] at hr
              have HR2 := Lib.hid hr; clear hr
              go_wp2_with (fail)
              go_ret
              exact ⟨ret_bool (by rw [HR.out, HR2.out]), HWW.out⟩
        · have hr : mayT t = false := by rw [HLE.out]; unfold nodeB kidsN; rw [decide_eq_false (by simp; omega)]; rfl
          have HR := Lib.hid hr
          have z3 : decide (v < 0) = true := decide_eq_true hv
          clear hr HT IH HM HLE
          go_enter Tryd.func21, Tryd.ntmps21
          go_wp2_with (fail)
          go_ret
          exact ⟨ret_bool HR.out.symm, HBOX.out _⟩
      · have hr : mayT t = false := by rw [HLE.out]; unfold nodeB kidsN; rw [decide_eq_false (by simp; omega)]; rfl
        have HR := Lib.hid hr
        have b0 : ((l : Int) != 0) = true := by rw [bne_iff_ne]; omega
        clear hr HT IH HM HLE
        go_enter Tryd.func21, Tryd.ntmps21
        go_wp2_with (fail)
        go_ret
        exact ⟨ret_bool HR.out.symm, HBOX.out _⟩
    · have hr : mayT t = false := by rw [HLE.out]; unfold nodeB kidsN; rw [decide_eq_false (by simp [h1, h2, h3, h4, h5])]; rfl
      have HR := Lib.hid hr
      have q1 : (k == 1) = false := by simpa using h1
      have q2 : (k == 2) = false := by simpa using h2
      have q3 : (k == 3) = false := by simpa using h3
      have q4 : (k == 4) = false := by simpa using h4
      have q5 : (k == 5) = false := by simpa using h5
      have b0 : ((l : Int) != -1) = true := by rw [bne_iff_ne]; omega
      clear hr HT IH HM HLE
      go_enter Tryd.func21, Tryd.ntmps21
      go_wp2_with (fail)
      go_ret
      exact ⟨ret_bool HR.out.symm, HBOX.out _⟩

set_option maxRecDepth 100000 in
set_option maxHeartbeats 6400000 in
theorem refSame_walk : ∀ (m : Nat) (t u : Ty) (h h' : Hd) (p p' : Option Addr) (l c l' c' : Nat) (w : World), wt t ≤ m → TyIs w h p l c t → TyIs w h' p' l' c' u →
    Calls Tryd.prog 13 #[.agg #[.int .u8 h.k, .int .i64 h.v, .slice p l c], .agg #[.int .u8 h'.k, .int .i64 h'.v, .slice p' l' c']] w fun e w' => e = .returned (.bool (sameT t u)) ∧ Below w.heap.size w w' := by
  intro m
  induction m with
  | zero => intro t u h h' p p' l c l' c' w hm; have := wt_pos t; omega
  | succ m ih =>
    intro t u h h' p p' l c l' c' w hm hT hU
    obtain ⟨k, v⟩ := h
    obtain ⟨k', v'⟩ := h'
    have hlc := cap63 hT
    have hlc' := cap63 hU
    have hbox : ∀ O O' : Obj, Below w.heap.size w ((w.alloc O).alloc O') := fun O O' => ((Below.refl _ _).alloc (Nat.le_refl _) _).alloc (by simp) _
    have HBOX := Lib.hid hbox; have HM := Lib.hid hm
    clear hm hbox
    by_cases hk : k ≠ k'
    · have hr : sameT t u = false := by rw [sameT_eq, hT.head, hU.head]; simp [hk]
      have HR := Lib.hid hr
      have n1 : (k == k') = false := by simpa using hk
      have n2 : (k != k') = true := by simpa using hk
      clear hr hT hU ih hk
      go_enter Tryd.func13, Tryd.ntmps13
      go_wp2_with (fail)
      go_ret
      exact ⟨ret_bool HR.out.symm, HBOX.out _ _⟩
    have hk' : k = k' := Classical.not_not.1 hk
    clear hk
    subst hk'
    by_cases hv : v ≠ v'
    · have hr : sameT t u = false := by rw [sameT_eq, hT.head, hU.head]; simp [hv]
      have HR := Lib.hid hr
      have n1 : (v == v') = false := by simpa using hv
      have n2 : (v != v') = true := by simpa using hv
      clear hr hT hU ih hv
      go_enter Tryd.func13, Tryd.ntmps13
      go_wp2_with (fail)
      go_ret
      exact ⟨ret_bool HR.out.symm, HBOX.out _ _⟩
    have hv' : v = v' := Classical.not_not.1 hv
    clear hv
    subst hv'
    by_cases hll : l ≠ l'
    · have hr : sameT t u = false := by rw [sameT_eq, hT.len, hU.len]; simp [hll]
      have HR := Lib.hid hr
      have n1 : ((l : Int) == (l' : Int)) = false := by rw [beq_eq_false_iff_ne]; omega
      have n2 : ((l : Int) != (l' : Int)) = true := by rw [bne, n1]; rfl
      clear hr hT hU ih
      go_enter Tryd.func13, Tryd.ntmps13
      go_wp2_with (fail)
      go_ret
      exact ⟨ret_bool HR.out.symm, HBOX.out _ _⟩
    have hll' : l = l' := Classical.not_not.1 hll
    clear hll
    subst hll'
    have hr : sameT t u = sameK t.ks u.ks := by rw [sameT_eq, hT.head, hU.head, hT.len, hU.len]; simp
    have HR := Lib.hid hr; have HT := Lib.hid hT; have HU := Lib.hid hU; have IH := Lib.hid ih
    clear hr hT hU ih hlc'
    go_enter Tryd.func13, Tryd.ntmps13
    go_wp2_with (fail)
    go_loopw [5, 30] (fun _ i wr => ∃ j : Nat, j ≤ l ∧ i = .int .i64 j ∧ sameK t.ks u.ks = sameK (t.ks.drop j) (u.ks.drop j) ∧ Below ((w.alloc (.cells #[.int .u8 k, .int .i64 v, .slice p l c] 25)).alloc (.cells #[.int .u8 k, .int .i64 v, .slice p' l c'] 25)).heap.size ((w.alloc (.cells #[.int .u8 k, .int .i64 v, .slice p l c] 25)).alloc (.cells #[.int .u8 k, .int .i64 v, .slice p' l c'] 25)) wr) (fun _ i _ => l - (intOf i).toNat)
    case atStart => exact ⟨0, Nat.zero_le _, rfl, by rw [List.drop_zero, List.drop_zero], Below.refl _ _⟩
    case round =>
      obtain ⟨j, hj, rfl, hsk, hw⟩ := hrel
      have HW := Lib.hid hw; have HSK := Lib.hid hsk
      have hw1 : Below (w.alloc (.cells #[.int .u8 k, .int .i64 v, .slice p l c] 25)).heap.size (w.alloc (.cells #[.int .u8 k, .int .i64 v, .slice p l c] 25)) wr := ((Below.refl _ _).alloc (Nat.le_refl _) (.cells #[.int .u8 k, .int .i64 v, .slice p' l c'] 25)).trans (hw.mono (by simp))
      obtain ⟨b0, b1, b2⟩ := box3 (N := w.heap.size) rfl hw1
      obtain ⟨d0, d1, d2⟩ := box3 (N := w.heap.size + 1) (by simp) hw
      have HWW := Lib.hid ((HBOX.out _ _).trans (hw.mono (by simp; omega : w.heap.size ≤ _)))
      clear hw hsk hw1
      by_cases hlt : j < l
      · have hjk : j < t.ks.length := by rw [HT.out.len]; exact hlt
        have hjk' : j < u.ks.length := by rw [HU.out.len]; exact hlt
        have hst := HSK.out
        rw [sameK_step _ _ _ hjk hjk'] at hst
        obtain ⟨b, o, q, d, rfl, hkid, c0, c1, c2⟩ := (HT.out.kids.stay HWW.out).get j hjk
        obtain ⟨b', o', q', d', rfl, hkid', e0, e1, e2⟩ := (HU.out.kids.stay HWW.out).get j hjk'
        have hwk := wts_get hjk
        have hwt := wt_ks t
        have HST := Lib.hid hst; have HK := Lib.hid hkid; have HK' := Lib.hid hkid'
        have HWK := Lib.hid hwk; have HWT := Lib.hid hwt
        clear hst hkid hkid' hwk hwt hjk hjk'
        go_wp2_with (fail)
        go_still_tail 10, (by kernel_rfl)
        go_wp2_with (fail)
        refine (IH.out (tget t.ks j) (tget u.ks j) _ _ q q' _ d _ d' _ (by have := HM.out; have := HWK.out; have := HWT.out; omega) (HK.out.below (Below.refl _ _).drew) (HK'.out.below (Below.refl _ _).drew)).mono ?_
        rintro e w2 ⟨rfl, hb2⟩
        have HW2 := Lib.hid (HW.out.drew.trans (hb2.mono HW.out.size))
        have HWW2 := Lib.hid (HWW.out.drew.trans (hb2.mono HWW.out.size))
        clear hb2 b0 b1 b2 d0 d1 d2 c0 c1 c2 e0 e1 e2
        cases hs : sameT (tget t.ks j) (tget u.ks j)
        · have hr2 := HST.out
          rw [hs, Bool.false_and] at hr2
          have HR2 := Lib.hid hr2
          clear hr2 hs
          go_wp2
          go_ret
          exact ⟨ret_bool (by rw [HR.out, HR2.out]), HWW2.out⟩
        · have hr2 := HST.out
          rw [hs, Bool.true_and] at hr2
          have HR2 := Lib.hid hr2
          clear hr2 hs
          go_wp2
          go_roundw
          case rel => exact ⟨j + 1, by omega, by go_num, HR2.out, HW2.out⟩
          case measure => simp [intOf]; omega
      · obtain rfl : j = l := by omega
        have hr2 := HSK.out
        rw [List.drop_eq_nil_of_le (by rw [HT.out.len]; exact Nat.le_refl _), sameK_nil] at hr2
        have HR2 := Lib.hid hr2
        clear hr2
        go_wp2
        go_ret
        exact ⟨ret_bool (by rw [HR.out, HR2.out]), HWW.out⟩
end Types
end Go.Proofs.YtjchplgapaeagaaDoor
namespace Go.Proofs.YtjchplgapaeagaaDoor
open Go.RowKit
set_option linter.unusedVariables false
set_option linter.unusedSimpArgs false
namespace Types

/-- A book of n variables, that makes the same what S tells; σ: its variables' senses; m: how many nodes there are at most. -/
def Book (P : Nat → Bool) (k : Bk) (w : World) (n : Nat) (S : (Nat → Ty) → Prop) (σ : Nat → Ty) (m : Nat) : Prop :=
  ∃ e g nm st r, TBk P w k none n e g ∧ Rep e nm st ∧ Bo n nm st g r ∧ (∀ θ, SolA nm st θ ↔ S θ) ∧ senB n nm st r = σ ∧ sumN n (wT st) ≤ m
section
variable {P P' : Nat → Bool} {w w' : World} {k : Bk} {n m : Nat} {S : (Nat → Ty) → Prop} {σ : Nat → Ty}
theorem Book.isSen (h : Book P k w n S σ m) : IsSen S σ := by
  obtain ⟨e, g, nm, st, r, _, _, hb, hS, rfl, _⟩ := h
  exact isSen_iff hS hb.isSen
theorem Book.sol (h : Book P k w n S σ m) {S' : (Nat → Ty) → Prop} (hs : ∀ θ, S θ ↔ S' θ) : Book P k w n S' σ m := by
  obtain ⟨e, g, nm, st, r, h1, h2, h3, h4, h5, h6⟩ := h
  exact ⟨e, g, nm, st, r, h1, h2, h3, fun θ => (h4 θ).trans (hs θ), h5, h6⟩
theorem Book.most (h : Book P k w n S σ m) {m' : Nat} (hm : m ≤ m') : Book P k w n S σ m' := by
  obtain ⟨e, g, nm, st, r, h1, h2, h3, h4, h5, h6⟩ := h
  exact ⟨e, g, nm, st, r, h1, h2, h3, h4, h5, Nat.le_trans h6 hm⟩
theorem Book.keep (h : Book P k w n S σ m) (hk : Kp P' w w') (hp : ∀ b, P b = true → P' b = true) (h1 : P' k.b = true) (h2 : P' k.s = true) (h3 : P' k.i = true) : Book P k w' n S σ m := by
  obtain ⟨e, g, nm, st, r, ⟨a1, a2⟩, h⟩ := h
  exact ⟨e, g, nm, st, r, ⟨a1.keep hk hp h1 h2 h3, trivial⟩, h⟩
theorem Book.below (h : Book P k w n S σ m) (hb : Below w.heap.size w w') : Book P k w' n S σ m := by
  obtain ⟨e, g, nm, st, r, h1, h⟩ := h
  exact ⟨e, g, nm, st, r, h1.below hb, h⟩
theorem Book.low (h : Book P k w n S σ m) : P k.b = false ∧ P k.s = false ∧ P k.i = false ∧ k.b < w.heap.size ∧ k.s < w.heap.size ∧ k.i < w.heap.size := by
  obtain ⟨e, g, nm, st, r, h1, h⟩ := h
  exact ⟨h1.me.pb, h1.me.ps, h1.me.pi, lt_of_block h1.me.box, h1.me.st.lt, h1.me.inn.lt⟩
theorem Book.dist (h : Book P k w n S σ m) : k.b ≠ k.s ∧ k.b ≠ k.i ∧ k.s ≠ k.i := by
  obtain ⟨e, g, nm, st, r, h1, h⟩ := h
  exact ⟨h1.me.bs, h1.me.bi, h1.me.si⟩
end
/-- All blocks but the book's own. -/
def PK (k : Bk) (b : Nat) : Bool := decide (b ≠ k.b ∧ b ≠ k.s ∧ b ≠ k.i)
/-- The sense of a type, and the error, as they are told. -/
def outE (n : Nat) (σ : Nat → Ty) (t : Ty) (most : Int) : Int := if hasB n t = true then (if (wt (inst σ t) : Int) ≤ most then 0 else 3) else 1
def outT (n : Nat) (σ : Nat → Ty) (t : Ty) (most : Int) : Ty := if hasB n t = true ∧ (wt (inst σ t) : Int) ≤ most then inst σ t else zTy
theorem isSen_tyV : IsSen (fun _ => True) tyV := ⟨trivial, fun θ _ v => (inst_var θ v).symm, fun v w h => Nat.le_of_eq (tyV_inj h).symm, may_V⟩
theorem solA_new (θ : Nat → Ty) : SolA (fun v => v) (fun _ => none) θ ↔ True := ⟨fun _ => trivial, fun _ => ⟨fun v => rfl, fun v t h => (by cases h)⟩⟩
theorem bnew_walk (P : Nat → Bool) (w : World) (h0 : P w.heap.size = false) (h1 : P (w.heap.size + 1) = false) (h2 : P (w.heap.size + 2) = false) :
    Calls Tryd.prog 11 #[] w fun e w' => e = .returned (.pointer (some ⟨w.heap.size + 2, 0, none⟩)) ∧ Below w.heap.size w w' ∧ Book P ⟨w.heap.size + 2, w.heap.size, w.heap.size + 1⟩ w' 0 (fun _ => True) tyV 0 ∧ w'.heap.size = w.heap.size + 3 :=
  (new_walk P w h0 h1 h2).mono fun e w' ⟨he, hb, hB, hs⟩ => ⟨he, hb, ⟨_, _, _, _, _, ⟨hB, trivial⟩, rep_new, bo_new _, solA_new, isSen_eq (isSen_iff solA_new (bo_new (fun _ => false)).isSen) isSen_tyV, Nat.le_refl _⟩, hs⟩
section
variable {P : Nat → Bool} {k : Bk} {n m : Nat} {S : (Nat → Ty) → Prop} {σ : Nat → Ty}
theorem bfresh_walk (w : World) (h : Book P k w n S σ m) (hn : n < 1000000) :
    Calls Tryd.prog 14 #[.pointer (some ⟨k.b, 0, none⟩)] w fun en w' => en = .returned (.agg #[.int .u8 5, .int .i64 (n : Int), .slice none 0 0]) ∧ Book P k w' (n + 1) S σ m ∧ Kp (PK k) w w' := by
  obtain ⟨e, g, nm, st, r, h1, h2, h3, h4, h5, h6⟩ := h
  refine (fresh_walk P k none n e g w h1 (by omega)).mono fun en w' ⟨he, hT, hk⟩ => ⟨he, ⟨e, g, nm, st, r, hT, h2, ?_, h4, ?_, ?_⟩, hk.mono fun b hb => decide_eq_true (of_decide_eq_true hb).1⟩
  · exact { h3 with out := fun v hv => h3.out v (by omega), name := fun v t hv => ⟨(h3.name v t hv).1, (h3.name v t hv).2.1, (h3.name v t hv).2.2.1, fun w hw => Nat.lt_succ_of_lt ((h3.name v t hv).2.2.2 w hw)⟩ }
  · rw [← h5]
    have hb' : Bo (n + 1) nm st g r := { h3 with out := fun v hv => h3.out v (by omega), name := fun v t hv => ⟨(h3.name v t hv).1, (h3.name v t hv).2.1, (h3.name v t hv).2.2.1, fun w hw => Nat.lt_succ_of_lt ((h3.name v t hv).2.2.2 w hw)⟩ }
    exact isSen_eq hb'.isSen h3.isSen
  · show sumN n (wT st) + wT st n ≤ m
    have : wT st n = 0 := by unfold wT; rw [(h3.out n (Nat.le_refl _)).2]
    omega
/-- What Join comes to. -/
def BjEnd (P : Nat → Bool) (k : Bk) (n m : Nat) (S : (Nat → Ty) → Prop) (σ : Nat → Ty) (ts : List Ty) (w : World) (en : Ending) (w' : World) : Prop :=
  Kp (PK k) w w' ∧ ((en = .returned (.bool false) ∧ Book P k w' n S σ m ∧ ((∃ t ∈ ts, hasB n t = false) ∨ ∀ θ, ¬ (S θ ∧ AllOne ts θ))) ∨
    (en = .returned (.bool true) ∧ (∀ t ∈ ts, hasB n t = true) ∧ ∃ σ', Book P k w' n (fun θ => S θ ∧ AllOne ts θ) σ' (n + m + nvK ts)))
theorem any_has {n : Nat} {ts : List Ty} : ((ts.any fun s => !hasB n s) = true ↔ ∃ t ∈ ts, hasB n t = false) ∧ ((ts.any fun s => !hasB n s) = false → ∀ t ∈ ts, hasB n t = true) := by
  constructor
  · rw [List.any_eq_true]
    exact ⟨fun ⟨t, h1, h2⟩ => ⟨t, h1, by simpa using h2⟩, fun ⟨t, h1, h2⟩ => ⟨t, h1, by rw [h2]; rfl⟩⟩
  · intro h t ht
    have := List.any_eq_false.1 h t ht
    simpa using this
theorem bjoin_walk (ts : List Ty) (p : Option Addr) (l d : Nat) (w : World) (h : Book P k w n S σ m) (hP : ∀ b, w.heap.size ≤ b → P b = true) (hK : Kids w p ts) (hKP : Kids (veil P w) p ts) (hl : ts.length = l) (hkl : KidsLaid w) (hbud : n + m + nvK ts + l + 8 < 400000000) :
    Calls Tryd.prog 17 #[.pointer (some ⟨k.b, 0, none⟩), .slice p l d] w (BjEnd P k n m S σ ts w) := by
  obtain ⟨e, g, nm, st, r, h1, h2, h3, h4, h5, h6⟩ := h
  refine (join_walk P k n e g nm st r ts p l d w h1 h2 h3 hP hK hKP hl hkl (by omega)).mono fun en w' ⟨hk, h⟩ => ⟨hk.mono fun b hb => decide_eq_true (of_decide_eq_true hb).2, ?_⟩
  rcases h with ⟨he, ⟨e', g', q1, q2, q3⟩, hno⟩ | ⟨he, hany, e', g', nm', st', r', q1, q2, q3, q4, q5⟩
  · refine .inl ⟨he, ⟨e', g', nm, st, r, q1, q2, q3, h4, h5, h6⟩, hno.imp any_has.1.1 fun h θ hθ => h θ ⟨(h4 θ).2 hθ.1, hθ.2⟩⟩
  · exact .inr ⟨he, any_has.2 hany, _, e', g', nm', st', r', q1, q2, q3, fun θ => (q4 θ).trans (and_congr (h4 θ) Iff.rfl), rfl, by omega⟩
theorem bsense_walk (hd : Hd) (p : Option Addr) (l c : Nat) (t : Ty) (most : Int) (w : World) (h : Book P k w n S σ m) (hTw : TyIs w hd p l c t) (hTy : TyIs (veil P w) hd p l c t) (hkl : KidsLaid w) (hn : n ≤ 1000000) (hm : m ≤ 400000) (hwt : wt t ≤ 1000000) (hmo : -9223372036854775808 ≤ most ∧ most ≤ 1000000000) :
    Calls Tryd.prog 18 #[.pointer (some ⟨k.b, 0, none⟩), .agg #[.int .u8 hd.k, .int .i64 hd.v, .slice p l c], .int .i64 most] w fun en w' => Book P k w' n S σ m ∧ Kp (PK k) w w' ∧
      ∃ (h : Hd) (q : Option Addr) (l c : Nat), en = .returned (.tuple #[.agg #[.int .u8 h.k, .int .i64 h.v, .slice q l c], .int .i64 (outE n σ t most)]) ∧ TyIs (veil (from_ w.heap.size) w') h q l c (outT n σ t most) := by
  obtain ⟨e, g, nm, st, r, h1, h2, h3, h4, h5, h6⟩ := h
  have hws : ∀ v t, st v = some t → wt t ≤ 1000000 := fun v t hv => by
    have a := wt_nv t (h3.name v t hv).2.1
    have b := sumN_at (F := wT st) (h3.lt hv)
    have c : wT st v = nv t := by unfold wT; rw [hv]
    omega
  have hoc := names_few (N := n) (nm := nm) (st := st) fun v t hv => (h3.name v t hv).2.1
  refine (senseM_walk (P0 P w.heap.size) k n e g nm st r hd p l c t most w (h1.reP (P0_reads P w) (P0_false h1.me.pb) (P0_false h1.me.ps) (P0_false h1.me.pi) fun x hx => by cases hx) h2 h3 hTw (hTy.reads' (P0_reads P w)) hkl (fun b hb => P0_new hb) (by omega) hwt hws (by omega) hmo).mono fun en w' ⟨⟨e', q1, q2⟩, hk, hor⟩ => ⟨⟨e', g, nm, st, r, q1.reP (P0_back w') h1.me.pb h1.me.ps h1.me.pi (fun x hx => by cases hx), q2, h3, h4, h5, h6⟩, hk.mono fun b hb => decide_eq_true (of_decide_eq_true hb).2.1, ?_⟩
  rw [h5] at hor
  unfold outE outT
  rcases hor with ⟨x1, he⟩ | ⟨x1, x2, he⟩ | ⟨x1, x2, h, q, l, c, he, x3⟩
  · rw [x1]; exact ⟨⟨0, 0⟩, none, 0, 0, he, zTy_is _⟩
  · rw [x1, if_pos rfl, if_neg (by omega), if_neg (by omega)]; exact ⟨⟨0, 0⟩, none, 0, 0, he, zTy_is _⟩
  · rw [x1, if_pos rfl, if_pos x2, if_pos ⟨rfl, x2⟩]; exact ⟨h, q, l, c, he, x3⟩
theorem bvars_walk (w : World) (h : Book P k w n S σ m) : Calls Tryd.prog 20 #[.pointer (some ⟨k.b, 0, none⟩)] w fun en w' => en = .returned (.int .i64 (n : Int)) ∧ w' = w := by
  obtain ⟨e, g, nm, st, r, h1, h⟩ := h
  exact vars_walk P k none n e g w h1
end
end Types
end Go.Proofs.YtjchplgapaeagaaDoor
namespace Go.Proofs.YtjchplgapaeagaaDoor
open Go.RowKit
set_option linter.unusedVariables false
set_option linter.unusedSimpArgs false
namespace Types

theorem isSen_one {x : Nat} {t : Ty} (hm : mayT t = true) (hx : x ∉ varsT t) (hk : t.h.k ≠ 5) : IsSen (fun θ => θ x = inst θ t) (upd tyV x t) := by
  refine ⟨?_, fun θ hθ v => ?_, fun v w h => ?_, fun v => ?_⟩
  · show upd tyV x t x = inst (upd tyV x t) t
    rw [upd_same, inst_congr (ψ := tyV) t fun v hv => upd_other tyV t (fun e : v = x => hx (by rw [← e]; exact hv)), inst_id t hm]
  · by_cases e : v = x
    · subst e; rw [upd_same]; exact hθ
    · rw [upd_other _ _ e, inst_var]
  · by_cases e : v = x
    · subst e; rw [upd_same] at h; rw [h] at hk; exact absurd rfl hk
    · rw [upd_other _ _ e] at h; exact Nat.le_of_eq (tyV_inj h).symm
  · by_cases e : v = x
    · subst e; rw [upd_same]; exact hm
    · rw [upd_other _ _ e]; exact may_V v
theorem allOne_two (a b : Ty) (θ : Nat → Ty) : AllOne [a, b] θ ↔ inst θ a = inst θ b := by
  constructor
  · intro h; exact h a (by simp) b (by simp)
  · intro h s hs s' hs'
    simp only [List.mem_cons, List.not_mem_nil, or_false] at hs hs'
    rcases hs with rfl | rfl <;> rcases hs' with rfl | rfl
    · rfl
    · exact h
    · exact h.symm
    · rfl
def tInt : Ty := .node ⟨1, 0⟩ []
def tPair (a b : Ty) : Ty := .node ⟨2, 0⟩ [a, b]
theorem may_tInt : mayT tInt = true := may_mk (by simp [nodeB, kidsN]) (by simp)
theorem may_tPair {a b : Ty} (ha : mayT a = true) (hb : mayT b = true) : mayT (tPair a b) = true := may_mk (by simp [nodeB, kidsN]) (fun u hu => by
  simp only [List.mem_cons, List.not_mem_nil, or_false] at hu
  rcases hu with rfl | rfl
  · exact ha
  · exact hb)
theorem inst_tInt (θ : Nat → Ty) : inst θ tInt = tInt := by
  rw [inst_eq, if_neg (show ¬ tInt.h.k = 5 from by decide)]
  show Ty.node _ (instK θ []) = _
  rw [instK_nil]; rfl
theorem inst_tPair (θ : Nat → Ty) (a b : Ty) : inst θ (tPair a b) = tPair (inst θ a) (inst θ b) := by
  rw [inst_eq, if_neg (show ¬ (tPair a b).h.k = 5 from fun h => by cases h)]
  show Ty.node _ (instK θ [a, b]) = _
  rw [instK_cons, instK_cons, instK_nil]; rfl
theorem vars_tInt : varsT tInt = [] := by
  rw [varsT_eq]; show [] ++ varsK [] = _; rw [varsK_nil]; rfl
theorem vars_tPair (a b : Ty) : varsT (tPair a b) = varsT a ++ varsT b := by
  rw [varsT_eq]
  show (if (2 : Int) = 5 then _ else []) ++ varsK [a, b] = _
  rw [if_neg (by decide), varsK_cons, varsK_cons, varsK_nil, List.append_nil, List.nil_append]
theorem tPair_inj {a b c d : Ty} (h : tPair a b = tPair c d) : a = c ∧ b = d := by
  unfold tPair at h
  injection h with _ h
  injection h with h1 h
  injection h with h2 _
  exact ⟨h1, h2⟩
theorem wt_tyV (v : Nat) : wt (tyV v) = 1 := by rw [wt_ks]; show wts [] + 1 = 1; rw [wts_nil]
theorem wt_tInt : wt tInt = 1 := by rw [wt_ks]; show wts [] + 1 = 1; rw [wts_nil]
theorem wt_tPair (a b : Ty) : wt (tPair a b) = wt a + wt b + 1 := by rw [wt_ks]; show wts [a, b] + 1 = _; rw [wts_cons, wts_cons, wts_nil]; omega
theorem hasB_of {n : Nat} {t : Ty} (hm : mayT t = true) (hv : ∀ v ∈ varsT t, v < n) : hasB n t = true := by
  unfold hasB
  rw [hm, Bool.true_and, ev_vars t hm, List.all_eq_true]
  intro x hx
  obtain ⟨v, h1, rfl⟩ := List.mem_map.1 hx
  have := hv v h1
  exact decide_eq_true (by omega)
theorem hasB_tyV {n v : Nat} (h : v < n) : hasB n (tyV v) = true := hasB_of (may_V v) fun w hw => by rw [vars_var, List.mem_singleton] at hw; omega
theorem hasB_no {n v : Nat} (h : n ≤ v) : hasB n (tyV v) = false := by
  cases hh : hasB n (tyV v) with
  | false => rfl
  | true => have := (has_facts hh).2 v (by rw [vars_var]; simp); omega
/-- A row that lies in one block. -/
theorem kids_blk {P : Nat → Bool} {W : World} {b : Nat} {cs : Array Value} {ty : TypeId} {ts : List Ty} (hx : W.heap[b]? = some (.cells cs ty (0, 0))) (hp : P b = true) (hf : Flat (veil P W) cs.toList ts) : Kids (veil P W) (some ⟨b, 0, none⟩) ts := by
  refine kids_of_flat (fun j u hu => ?_) hf
  rw [World.cell?_of_block (veil_at hp)]
  rw [Array.getElem?_toList] at hu
  simp [World.cell?, hx, hu]
theorem tInt_is (w : World) : TyIs w ⟨1, 0⟩ none 0 0 tInt := ⟨rfl, rfl, ⟨by decide, by decide⟩, ⟨Nat.le_refl _, Nat.zero_le _⟩, .nokids _⟩
theorem tPair_is {w : World} {a b : Ty} {p : Option Addr} {c : Nat} (hc : 2 ≤ c ∧ c ≤ maxLen) (hk : Kids w p [a, b]) : TyIs w ⟨2, 0⟩ p 2 c (tPair a b) := ⟨rfl, rfl, ⟨by decide, by decide⟩, hc, hk⟩
theorem flat_two {w : World} {a b : Ty} {h1 h2 : Hd} {p1 p2 : Option Addr} {l1 c1 l2 c2 : Nat} (ha : TyIs w h1 p1 l1 c1 a) (hb : TyIs w h2 p2 l2 c2 b) : Flat w [.int .u8 h1.k, .int .i64 h1.v, .slice p1 l1 c1, .int .u8 h2.k, .int .i64 h2.v, .slice p2 l2 c2] [a, b] := (Flat.one ha).append (Flat.one hb)
theorem nvK_two (a b : Ty) : nvK [a, b] = nv a + nv b := by unfold nvK; unfold nvK; unfold nvK; omega
end Types
end Go.Proofs.YtjchplgapaeagaaDoor
