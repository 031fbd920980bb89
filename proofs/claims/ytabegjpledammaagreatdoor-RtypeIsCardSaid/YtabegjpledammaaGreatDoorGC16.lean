/-The walks of the document's Size, May and Same of types. -/
import Derived.Test.YtabegjpledammaaGreatDoorGC08
import Derived.Test.YtabegjpledammaaGreatDoorGC07
import Derived.IntWalk
import Derived.StillTailTactics
import Derived.BigQuiet
namespace Go.Proofs.YtabegjpledammaaGreatDoor
open Go.RowKit
set_option linter.unusedVariables false
namespace Types

theorem cap63 {w : World} {h : Hd} {p : Option Addr} {l c : Nat} {t : Ty} (hT : TyIs w h p l c t) : l ≤ 9223372036854775807 := by have := hT.cap; unfold maxLen at this; omega
/-! ### Size -/
theorem wts_take_step (ts : List Ty) (j : Nat) (hj : j < ts.length) : wts (ts.take (j + 1)) = wts (ts.take j) + wt (tget ts j) := by
  rw [take_tget ts j hj, wts_append, wts_cons, wts_nil]; omega
set_option maxRecDepth 10000 in
set_option maxHeartbeats 3200000 in
theorem refSize_walk : ∀ (m : Nat) (t : Ty) (h : Hd) (p : Option Addr) (l c : Nat) (w : World), wt t ≤ m → m ≤ 1000000 → TyIs w h p l c t →
    Calls Tryz.prog 24 #[.agg #[.int .u8 h.k, .int .i64 h.v, .slice p l c]] w fun e w' => e = .returned (.int .i64 (wt t : Nat)) ∧ Below w.heap.size w w' := by
  intro m
  induction m with
  | zero => intro t h p l c w hm; have := wt_pos t; omega
  | succ m ih =>
    intro t h p l c w hm hmm hT
    obtain ⟨k, v⟩ := h
    have hlc := cap63 hT
    have hbox : ∀ O : Obj, Below w.heap.size w (w.alloc O) := fun O => box_new O
    have hwt := wt_ks t
    have HBOX := Lib.hid hbox; have IH := Lib.hid ih; have HT := Lib.hid hT; have HM := Lib.hid (And.intro hm hmm); have HWT := Lib.hid hwt
    clear ih hT hm hbox hwt hmm
    go_enter Tryz.func24, Tryz.ntmps24
    go_wp2_with (fail)
    go_loopw [3, 4, 8] (fun N _ i wr => ∃ (j M : Nat), j ≤ l ∧ i = .int .i64 j ∧ N = .int .i64 M ∧ M ≤ 1000000 ∧ Hid (M = wts (t.ks.take j) + 1) ∧
      Hid (Below (w.alloc (.cells #[.int .u8 k, .int .i64 v, .slice p l c] 37)).heap.size (w.alloc (.cells #[.int .u8 k, .int .i64 v, .slice p l c] 37)) wr)) (fun _ _ i _ => l - (intOf i).toNat)
    case atStart => exact ⟨0, 1, Nat.zero_le _, rfl, rfl, by omega, Lib.hid (by rw [List.take_zero, wts_nil]), Lib.hid (Below.refl _ _)⟩
    case round =>
      obtain ⟨j, M, hj, rfl, rfl, hM1, HLK, HW⟩ := hrel
      obtain ⟨b0, b1, b2⟩ := box3 (N := w.heap.size) rfl HW.out
      have HWW := Lib.hid ((HBOX.out _).trans (HW.out.mono (HBOX.out _).size))
      by_cases hlt : j < l
      · have hjk : j < t.ks.length := by rw [HT.out.len]; exact hlt
        have hst := wts_take_step t.ks j hjk
        obtain ⟨b, o, q, c', rfl, hkid, c0, c1, c2⟩ := (HT.out.kids.stay HWW.out).get j hjk
        have hwk := wts_get hjk
        have htl := wts_take_le t.ks (j + 1)
        have HST := Lib.hid hst; have HK := Lib.hid hkid
        have HWK := Lib.hid hwk; have HTL := Lib.hid htl
        clear hst hkid hwk hjk htl
        go_wp2_with (fail)
        refine (IH.out (tget t.ks j) _ q _ c' _ (by have := HM.out; have := HWK.out; have := HWT.out; omega) (by have := HM.out; omega) HK.out).mono ?_
        rintro e w2 ⟨rfl, hb2⟩
        have HW2 := Lib.hid (HW.out.trans (hb2.mono HW.out.size))
        clear hb2 b0 b1 b2 c0 c1 c2
        have hx0 : M + wt (tget t.ks j) = wts (t.ks.take (j + 1)) + 1 := by rw [HST.out, HLK.out]; omega
        have hx1 : M + wt (tget t.ks j) ≤ 1000000 := by have := HTL.out; have := HM.out; have := HWT.out; omega
        have HX0 := Lib.hid hx0
        clear hx0
        generalize wt (tget t.ks j) = X at *
        go_wp2
        go_roundw
        case rel => exact ⟨j + 1, M + X, by omega, by go_num, by go_num, hx1, HX0, HW2⟩
        case measure => simp [intOf]; omega
      · obtain rfl : j = l := by omega
        have hr := HLK.out
        rw [List.take_of_length_le (by rw [HT.out.len]; exact Nat.le_refl _), ← HWT.out] at hr
        have HR := Lib.hid hr; clear hr
        go_wp2_with (fail)
        go_ret
        exact ⟨by rw [← HR.out]; rfl, HWW.out⟩
theorem mayK_nil : mayK [] = true := allK_nil _
theorem mayK_step (ts : List Ty) (j : Nat) (h : j < ts.length) : mayK (ts.drop j) = (mayT (tget ts j) && mayK (ts.drop (j + 1))) := allK_step _ ts j h
theorem mayT_eq (t : Ty) : mayT t = (nodeB t.h t.ks.length && mayK t.ks) := allT_eq _ t
set_option maxRecDepth 10000 in
set_option maxHeartbeats 12800000 in
theorem refMay_walk : ∀ (m : Nat) (t : Ty) (h : Hd) (p : Option Addr) (l c : Nat) (w : World), wt t ≤ m → TyIs w h p l c t →
    Calls Tryz.prog 25 #[.agg #[.int .u8 h.k, .int .i64 h.v, .slice p l c]] w fun e w' => e = .returned (.bool (mayT t)) ∧ Below w.heap.size w w' := by
  intro m
  induction m with
  | zero => intro t h p l c w hm; have := wt_pos t; omega
  | succ m ih =>
    intro t h p l c w hm hT
    have hle := mayT_eq t
    rw [hT.head, hT.len] at hle
    have hlc := cap63 hT
    have hbox : ∀ O : Obj, Below w.heap.size w (w.alloc O) := fun O => box_new O
    have hkr := hT.ok.k
    have hvr := hT.ok.v
    obtain ⟨k, v⟩ := h
    simp only at hkr hvr
    have HBOX := Lib.hid hbox; have IH := Lib.hid ih; have HT := Lib.hid hT; have HM := Lib.hid hm; have HLE := Lib.hid hle
    clear ih hT hm hbox hle
    have hcase : k = 1 ∨ k = 2 ∨ k = 3 ∨ k = 4 ∨ k = 5 ∨ (k ≠ 1 ∧ k ≠ 2 ∧ k ≠ 3 ∧ k ≠ 4 ∧ k ≠ 5) := by omega
    rcases hcase with rfl | rfl | rfl | rfl | rfl | ⟨h1, h2, h3, h4, h5⟩
    · by_cases hln : l = 0
      · subst hln
        have hcv : v = 0 ∨ 0 < v ∨ v < 0 := by omega
        rcases hcv with rfl | hv | hv
        · have hr : mayT t = mayK t.ks := by rw [HLE.out]; unfold nodeB kidsN; rw [decide_eq_true (by simp)]; simp
          have HR := Lib.hid hr
          clear hr
          go_enter Tryz.func25, Tryz.ntmps25
          go_wp2_with (fail)
          go_loopw [4, 38] (fun _ i wr => ∃ (j : Nat), j ≤ 0 ∧ i = .int .i64 j ∧ Hid (mayK t.ks = mayK (t.ks.drop j)) ∧
            Hid (Below (w.alloc (.cells #[.int .u8 1, .int .i64 0, .slice p 0 c] 37)).heap.size (w.alloc (.cells #[.int .u8 1, .int .i64 0, .slice p 0 c] 37)) wr)) (fun _ i _ => 0 - (intOf i).toNat)
          case atStart => exact ⟨0, Nat.zero_le _, rfl, Lib.hid (by rw [List.drop_zero]), Lib.hid (Below.refl _ _)⟩
          case round =>
            obtain ⟨j, hj, rfl, HLK, HW⟩ := hrel
            obtain ⟨b0, b1, b2⟩ := box3 (N := w.heap.size) rfl HW.out
            have HWW := Lib.hid ((HBOX.out _).trans (HW.out.mono (HBOX.out _).size))
            by_cases hlt : j < 0
            · exact absurd hlt (Nat.not_lt_zero _)
            · obtain rfl : j = 0 := by omega
              have hr := HLK.out
              rw [List.drop_eq_nil_of_le (by rw [HT.out.len]; exact Nat.le_refl _), mayK_nil] at hr
              have HR2 := Lib.hid hr; clear hr
              go_wp2_with (fail)
              go_ret
              exact ⟨ret_bool (by rw [HR.out, HR2.out]), HWW.out⟩
        · have hr : mayT t = false := by rw [HLE.out]; unfold nodeB kidsN; rw [decide_eq_false (by simp; omega)]; rfl
          have HR := Lib.hid hr
          have z1 : ¬ v < 0 := by omega
          have z2 : decide (v < 0) = false := decide_eq_false z1
          have z3 : decide (0 < v) = true := decide_eq_true hv
          clear hr HT IH HM HLE
          go_enter Tryz.func25, Tryz.ntmps25
          go_wp2_with (fail)
          go_ret
          exact ⟨ret_bool HR.out.symm, HBOX.out _⟩
        · have hr : mayT t = false := by rw [HLE.out]; unfold nodeB kidsN; rw [decide_eq_false (by simp; omega)]; rfl
          have HR := Lib.hid hr
          have z3 : decide (v < 0) = true := decide_eq_true hv
          clear hr HT IH HM HLE
          go_enter Tryz.func25, Tryz.ntmps25
          go_wp2_with (fail)
          go_ret
          exact ⟨ret_bool HR.out.symm, HBOX.out _⟩
      · have hr : mayT t = false := by rw [HLE.out]; unfold nodeB kidsN; rw [decide_eq_false (by simp; omega)]; rfl
        have HR := Lib.hid hr
        have b0 : ((l : Int) != 0) = true := by rw [bne_iff_ne]; omega
        clear hr HT IH HM HLE
        go_enter Tryz.func25, Tryz.ntmps25
        go_wp2_with (fail)
        go_ret
        exact ⟨ret_bool HR.out.symm, HBOX.out _⟩
    · by_cases hln : l = 2
      · subst hln
        have hcv : v = 0 ∨ 0 < v ∨ v < 0 := by omega
        rcases hcv with rfl | hv | hv
        · have hr : mayT t = mayK t.ks := by rw [HLE.out]; unfold nodeB kidsN; rw [decide_eq_true (by simp)]; simp
          have HR := Lib.hid hr
          clear hr
          go_enter Tryz.func25, Tryz.ntmps25
          go_wp2_with (fail)
          go_loopw [4, 38] (fun _ i wr => ∃ (j : Nat), j ≤ 2 ∧ i = .int .i64 j ∧ Hid (mayK t.ks = mayK (t.ks.drop j)) ∧
            Hid (Below (w.alloc (.cells #[.int .u8 2, .int .i64 0, .slice p 2 c] 37)).heap.size (w.alloc (.cells #[.int .u8 2, .int .i64 0, .slice p 2 c] 37)) wr)) (fun _ i _ => 2 - (intOf i).toNat)
          case atStart => exact ⟨0, Nat.zero_le _, rfl, Lib.hid (by rw [List.drop_zero]), Lib.hid (Below.refl _ _)⟩
          case round =>
            obtain ⟨j, hj, rfl, HLK, HW⟩ := hrel
            obtain ⟨b0, b1, b2⟩ := box3 (N := w.heap.size) rfl HW.out
            have HWW := Lib.hid ((HBOX.out _).trans (HW.out.mono (HBOX.out _).size))
            by_cases hlt : j < 2
            · have hjk : j < t.ks.length := by rw [HT.out.len]; exact hlt
              have hst := HLK.out
              rw [mayK_step _ _ hjk] at hst
              obtain ⟨b, o, q, c', rfl, hkid, c0, c1, c2⟩ := (HT.out.kids.stay HWW.out).get j hjk
              have hwk := wts_get hjk
              have hwt := wt_ks t
              have HST := Lib.hid hst; have HK := Lib.hid hkid
              have HWK := Lib.hid hwk; have HWT := Lib.hid hwt
              clear hst hkid hwk hwt hjk
              go_wp2_with (fail)
              refine (IH.out (tget t.ks j) _ q _ c' _ (by have := HM.out; have := HWK.out; have := HWT.out; omega) HK.out).mono ?_
              rintro e w2 ⟨rfl, hb2⟩
              have HW2 := Lib.hid (HW.out.trans (hb2.mono HW.out.size))
              have HWW2 := Lib.hid (HWW.out.trans (hb2.mono HWW.out.size))
              clear hb2 b0 b1 b2 c0 c1 c2
              cases hX : mayT (tget t.ks j)
              · have hs := HST.out
                rw [hX, Bool.false_and] at hs
                have HS := Lib.hid hs
                clear hs hX
                go_wp2
                go_ret
                exact ⟨ret_bool (by rw [HR.out, HS.out]), HWW2.out⟩
              · have hs := HST.out
                rw [hX, Bool.true_and] at hs
                have HS := Lib.hid hs
                clear hs hX
                go_wp2
                go_roundw
                case rel => exact ⟨j + 1, by omega, by go_num, HS, HW2⟩
                case measure => first | (simp [intOf]; done) | (simp [intOf]; omega)
            · obtain rfl : j = 2 := by omega
              have hr := HLK.out
              rw [List.drop_eq_nil_of_le (by rw [HT.out.len]; exact Nat.le_refl _), mayK_nil] at hr
              have HR2 := Lib.hid hr; clear hr
              go_wp2_with (fail)
              go_ret
              exact ⟨ret_bool (by rw [HR.out, HR2.out]), HWW.out⟩
        · have hr : mayT t = false := by rw [HLE.out]; unfold nodeB kidsN; rw [decide_eq_false (by simp; omega)]; rfl
          have HR := Lib.hid hr
          have z1 : ¬ v < 0 := by omega
          have z2 : decide (v < 0) = false := decide_eq_false z1
          have z3 : decide (0 < v) = true := decide_eq_true hv
          clear hr HT IH HM HLE
          go_enter Tryz.func25, Tryz.ntmps25
          go_wp2_with (fail)
          go_ret
          exact ⟨ret_bool HR.out.symm, HBOX.out _⟩
        · have hr : mayT t = false := by rw [HLE.out]; unfold nodeB kidsN; rw [decide_eq_false (by simp; omega)]; rfl
          have HR := Lib.hid hr
          have z3 : decide (v < 0) = true := decide_eq_true hv
          clear hr HT IH HM HLE
          go_enter Tryz.func25, Tryz.ntmps25
          go_wp2_with (fail)
          go_ret
          exact ⟨ret_bool HR.out.symm, HBOX.out _⟩
      · have hr : mayT t = false := by rw [HLE.out]; unfold nodeB kidsN; rw [decide_eq_false (by simp; omega)]; rfl
        have HR := Lib.hid hr
        have b0 : ((l : Int) != 2) = true := by rw [bne_iff_ne]; omega
        clear hr HT IH HM HLE
        go_enter Tryz.func25, Tryz.ntmps25
        go_wp2_with (fail)
        go_ret
        exact ⟨ret_bool HR.out.symm, HBOX.out _⟩
    · by_cases hln : l = 1
      · subst hln
        have hcv : v = 0 ∨ 0 < v ∨ v < 0 := by omega
        rcases hcv with rfl | hv | hv
        · have hr : mayT t = mayK t.ks := by rw [HLE.out]; unfold nodeB kidsN; rw [decide_eq_true (by simp)]; simp
          have HR := Lib.hid hr
          clear hr
          go_enter Tryz.func25, Tryz.ntmps25
          go_wp2_with (fail)
          go_loopw [4, 38] (fun _ i wr => ∃ (j : Nat), j ≤ 1 ∧ i = .int .i64 j ∧ Hid (mayK t.ks = mayK (t.ks.drop j)) ∧
            Hid (Below (w.alloc (.cells #[.int .u8 3, .int .i64 0, .slice p 1 c] 37)).heap.size (w.alloc (.cells #[.int .u8 3, .int .i64 0, .slice p 1 c] 37)) wr)) (fun _ i _ => 1 - (intOf i).toNat)
          case atStart => exact ⟨0, Nat.zero_le _, rfl, Lib.hid (by rw [List.drop_zero]), Lib.hid (Below.refl _ _)⟩
          case round =>
            obtain ⟨j, hj, rfl, HLK, HW⟩ := hrel
            obtain ⟨b0, b1, b2⟩ := box3 (N := w.heap.size) rfl HW.out
            have HWW := Lib.hid ((HBOX.out _).trans (HW.out.mono (HBOX.out _).size))
            by_cases hlt : j < 1
            · have hjk : j < t.ks.length := by rw [HT.out.len]; exact hlt
              have hst := HLK.out
              rw [mayK_step _ _ hjk] at hst
              obtain ⟨b, o, q, c', rfl, hkid, c0, c1, c2⟩ := (HT.out.kids.stay HWW.out).get j hjk
              have hwk := wts_get hjk
              have hwt := wt_ks t
              have HST := Lib.hid hst; have HK := Lib.hid hkid
              have HWK := Lib.hid hwk; have HWT := Lib.hid hwt
              clear hst hkid hwk hwt hjk
              go_wp2_with (fail)
              refine (IH.out (tget t.ks j) _ q _ c' _ (by have := HM.out; have := HWK.out; have := HWT.out; omega) HK.out).mono ?_
              rintro e w2 ⟨rfl, hb2⟩
              have HW2 := Lib.hid (HW.out.trans (hb2.mono HW.out.size))
              have HWW2 := Lib.hid (HWW.out.trans (hb2.mono HWW.out.size))
              clear hb2 b0 b1 b2 c0 c1 c2
              cases hX : mayT (tget t.ks j)
              · have hs := HST.out
                rw [hX, Bool.false_and] at hs
                have HS := Lib.hid hs
                clear hs hX
                go_wp2
                go_ret
                exact ⟨ret_bool (by rw [HR.out, HS.out]), HWW2.out⟩
              · have hs := HST.out
                rw [hX, Bool.true_and] at hs
                have HS := Lib.hid hs
                clear hs hX
                go_wp2
                go_roundw
                case rel => exact ⟨j + 1, by omega, by go_num, HS, HW2⟩
                case measure => first | (simp [intOf]; done) | (simp [intOf]; omega)
            · obtain rfl : j = 1 := by omega
              have hr := HLK.out
              rw [List.drop_eq_nil_of_le (by rw [HT.out.len]; exact Nat.le_refl _), mayK_nil] at hr
              have HR2 := Lib.hid hr; clear hr
              go_wp2_with (fail)
              go_ret
              exact ⟨ret_bool (by rw [HR.out, HR2.out]), HWW.out⟩
        · have hr : mayT t = false := by rw [HLE.out]; unfold nodeB kidsN; rw [decide_eq_false (by simp; omega)]; rfl
          have HR := Lib.hid hr
          have z1 : ¬ v < 0 := by omega
          have z2 : decide (v < 0) = false := decide_eq_false z1
          have z3 : decide (0 < v) = true := decide_eq_true hv
          clear hr HT IH HM HLE
          go_enter Tryz.func25, Tryz.ntmps25
          go_wp2_with (fail)
          go_ret
          exact ⟨ret_bool HR.out.symm, HBOX.out _⟩
        · have hr : mayT t = false := by rw [HLE.out]; unfold nodeB kidsN; rw [decide_eq_false (by simp; omega)]; rfl
          have HR := Lib.hid hr
          have z3 : decide (v < 0) = true := decide_eq_true hv
          clear hr HT IH HM HLE
          go_enter Tryz.func25, Tryz.ntmps25
          go_wp2_with (fail)
          go_ret
          exact ⟨ret_bool HR.out.symm, HBOX.out _⟩
      · have hr : mayT t = false := by rw [HLE.out]; unfold nodeB kidsN; rw [decide_eq_false (by simp; omega)]; rfl
        have HR := Lib.hid hr
        have b0 : ((l : Int) != 1) = true := by rw [bne_iff_ne]; omega
        clear hr HT IH HM HLE
        go_enter Tryz.func25, Tryz.ntmps25
        go_wp2_with (fail)
        go_ret
        exact ⟨ret_bool HR.out.symm, HBOX.out _⟩
    · by_cases hln : l = 2
      · subst hln
        have hcv : v = 0 ∨ 0 < v ∨ v < 0 := by omega
        rcases hcv with rfl | hv | hv
        · have hr : mayT t = mayK t.ks := by rw [HLE.out]; unfold nodeB kidsN; rw [decide_eq_true (by simp)]; simp
          have HR := Lib.hid hr
          clear hr
          go_enter Tryz.func25, Tryz.ntmps25
          go_wp2_with (fail)
          go_loopw [4, 38] (fun _ i wr => ∃ (j : Nat), j ≤ 2 ∧ i = .int .i64 j ∧ Hid (mayK t.ks = mayK (t.ks.drop j)) ∧
            Hid (Below (w.alloc (.cells #[.int .u8 4, .int .i64 0, .slice p 2 c] 37)).heap.size (w.alloc (.cells #[.int .u8 4, .int .i64 0, .slice p 2 c] 37)) wr)) (fun _ i _ => 2 - (intOf i).toNat)
          case atStart => exact ⟨0, Nat.zero_le _, rfl, Lib.hid (by rw [List.drop_zero]), Lib.hid (Below.refl _ _)⟩
          case round =>
            obtain ⟨j, hj, rfl, HLK, HW⟩ := hrel
            obtain ⟨b0, b1, b2⟩ := box3 (N := w.heap.size) rfl HW.out
            have HWW := Lib.hid ((HBOX.out _).trans (HW.out.mono (HBOX.out _).size))
            by_cases hlt : j < 2
            · have hjk : j < t.ks.length := by rw [HT.out.len]; exact hlt
              have hst := HLK.out
              rw [mayK_step _ _ hjk] at hst
              obtain ⟨b, o, q, c', rfl, hkid, c0, c1, c2⟩ := (HT.out.kids.stay HWW.out).get j hjk
              have hwk := wts_get hjk
              have hwt := wt_ks t
              have HST := Lib.hid hst; have HK := Lib.hid hkid
              have HWK := Lib.hid hwk; have HWT := Lib.hid hwt
              clear hst hkid hwk hwt hjk
              go_wp2_with (fail)
              refine (IH.out (tget t.ks j) _ q _ c' _ (by have := HM.out; have := HWK.out; have := HWT.out; omega) HK.out).mono ?_
              rintro e w2 ⟨rfl, hb2⟩
              have HW2 := Lib.hid (HW.out.trans (hb2.mono HW.out.size))
              have HWW2 := Lib.hid (HWW.out.trans (hb2.mono HWW.out.size))
              clear hb2 b0 b1 b2 c0 c1 c2
              cases hX : mayT (tget t.ks j)
              · have hs := HST.out
                rw [hX, Bool.false_and] at hs
                have HS := Lib.hid hs
                clear hs hX
                go_wp2
                go_ret
                exact ⟨ret_bool (by rw [HR.out, HS.out]), HWW2.out⟩
              · have hs := HST.out
                rw [hX, Bool.true_and] at hs
                have HS := Lib.hid hs
                clear hs hX
                go_wp2
                go_roundw
                case rel => exact ⟨j + 1, by omega, by go_num, HS, HW2⟩
                case measure => first | (simp [intOf]; done) | (simp [intOf]; omega)
            · obtain rfl : j = 2 := by omega
              have hr := HLK.out
              rw [List.drop_eq_nil_of_le (by rw [HT.out.len]; exact Nat.le_refl _), mayK_nil] at hr
              have HR2 := Lib.hid hr; clear hr
              go_wp2_with (fail)
              go_ret
              exact ⟨ret_bool (by rw [HR.out, HR2.out]), HWW.out⟩
        · have hr : mayT t = false := by rw [HLE.out]; unfold nodeB kidsN; rw [decide_eq_false (by simp; omega)]; rfl
          have HR := Lib.hid hr
          have z1 : ¬ v < 0 := by omega
          have z2 : decide (v < 0) = false := decide_eq_false z1
          have z3 : decide (0 < v) = true := decide_eq_true hv
          clear hr HT IH HM HLE
          go_enter Tryz.func25, Tryz.ntmps25
          go_wp2_with (fail)
          go_ret
          exact ⟨ret_bool HR.out.symm, HBOX.out _⟩
        · have hr : mayT t = false := by rw [HLE.out]; unfold nodeB kidsN; rw [decide_eq_false (by simp; omega)]; rfl
          have HR := Lib.hid hr
          have z3 : decide (v < 0) = true := decide_eq_true hv
          clear hr HT IH HM HLE
          go_enter Tryz.func25, Tryz.ntmps25
          go_wp2_with (fail)
          go_ret
          exact ⟨ret_bool HR.out.symm, HBOX.out _⟩
      · have hr : mayT t = false := by rw [HLE.out]; unfold nodeB kidsN; rw [decide_eq_false (by simp; omega)]; rfl
        have HR := Lib.hid hr
        have b0 : ((l : Int) != 2) = true := by rw [bne_iff_ne]; omega
        clear hr HT IH HM HLE
        go_enter Tryz.func25, Tryz.ntmps25
        go_wp2_with (fail)
        go_ret
        exact ⟨ret_bool HR.out.symm, HBOX.out _⟩
    · by_cases hln : l = 0
      · subst hln
        have hcv : v = 0 ∨ 0 < v ∨ v < 0 := by omega
        rcases hcv with rfl | hv | hv
        · have hr : mayT t = mayK t.ks := by rw [HLE.out]; unfold nodeB kidsN; rw [decide_eq_true (by simp)]; simp
          have HR := Lib.hid hr
          clear hr
          go_enter Tryz.func25, Tryz.ntmps25
          go_wp2_with (fail)
          go_loopw [4, 38] (fun _ i wr => ∃ (j : Nat), j ≤ 0 ∧ i = .int .i64 j ∧ Hid (mayK t.ks = mayK (t.ks.drop j)) ∧
            Hid (Below (w.alloc (.cells #[.int .u8 5, .int .i64 0, .slice p 0 c] 37)).heap.size (w.alloc (.cells #[.int .u8 5, .int .i64 0, .slice p 0 c] 37)) wr)) (fun _ i _ => 0 - (intOf i).toNat)
          case atStart => exact ⟨0, Nat.zero_le _, rfl, Lib.hid (by rw [List.drop_zero]), Lib.hid (Below.refl _ _)⟩
          case round =>
            obtain ⟨j, hj, rfl, HLK, HW⟩ := hrel
            obtain ⟨b0, b1, b2⟩ := box3 (N := w.heap.size) rfl HW.out
            have HWW := Lib.hid ((HBOX.out _).trans (HW.out.mono (HBOX.out _).size))
            by_cases hlt : j < 0
            · exact absurd hlt (Nat.not_lt_zero _)
            · obtain rfl : j = 0 := by omega
              have hr := HLK.out
              rw [List.drop_eq_nil_of_le (by rw [HT.out.len]; exact Nat.le_refl _), mayK_nil] at hr
              have HR2 := Lib.hid hr; clear hr
              go_wp2_with (fail)
              go_ret
              exact ⟨ret_bool (by rw [HR.out, HR2.out]), HWW.out⟩
        · have hr : mayT t = mayK t.ks := by rw [HLE.out]; unfold nodeB kidsN; rw [decide_eq_true (by simp; omega)]; simp
          have HR := Lib.hid hr
          have z1 : ¬ v < 0 := by omega
          have z2 : decide (v < 0) = false := decide_eq_false z1
          have z3 : decide (0 < v) = true := decide_eq_true hv
          clear hr
          go_enter Tryz.func25, Tryz.ntmps25
          go_wp2_with (fail)
          go_loopw [4, 38] (fun _ i wr => ∃ (j : Nat), j ≤ 0 ∧ i = .int .i64 j ∧ Hid (mayK t.ks = mayK (t.ks.drop j)) ∧
            Hid (Below (w.alloc (.cells #[.int .u8 5, .int .i64 v, .slice p 0 c] 37)).heap.size (w.alloc (.cells #[.int .u8 5, .int .i64 v, .slice p 0 c] 37)) wr)) (fun _ i _ => 0 - (intOf i).toNat)
          case atStart => exact ⟨0, Nat.zero_le _, rfl, Lib.hid (by rw [List.drop_zero]), Lib.hid (Below.refl _ _)⟩
          case round =>
            obtain ⟨j, hj, rfl, HLK, HW⟩ := hrel
            obtain ⟨b0, b1, b2⟩ := box3 (N := w.heap.size) rfl HW.out
            have HWW := Lib.hid ((HBOX.out _).trans (HW.out.mono (HBOX.out _).size))
            by_cases hlt : j < 0
            · exact absurd hlt (Nat.not_lt_zero _)
            · obtain rfl : j = 0 := by omega
              have hr := HLK.out
              rw [List.drop_eq_nil_of_le (by rw [HT.out.len]; exact Nat.le_refl _), mayK_nil] at hr
              have HR2 := Lib.hid hr; clear hr
              go_wp2_with (fail)
              go_ret
              exact ⟨ret_bool (by rw [HR.out, HR2.out]), HWW.out⟩
        · have hr : mayT t = false := by rw [HLE.out]; unfold nodeB kidsN; rw [decide_eq_false (by simp; omega)]; rfl
          have HR := Lib.hid hr
          have z3 : decide (v < 0) = true := decide_eq_true hv
          clear hr HT IH HM HLE
          go_enter Tryz.func25, Tryz.ntmps25
          go_wp2_with (fail)
          go_ret
          exact ⟨ret_bool HR.out.symm, HBOX.out _⟩
      · have hr : mayT t = false := by rw [HLE.out]; unfold nodeB kidsN; rw [decide_eq_false (by simp; omega)]; rfl
        have HR := Lib.hid hr
        have b0 : ((l : Int) != 0) = true := by rw [bne_iff_ne]; omega
        clear hr HT IH HM HLE
        go_enter Tryz.func25, Tryz.ntmps25
        go_wp2_with (fail)
        go_ret
        exact ⟨ret_bool HR.out.symm, HBOX.out _⟩
    · have hr : mayT t = false := by rw [HLE.out]; unfold nodeB kidsN; rw [decide_eq_false (by simp [h1, h2, h3, h4, h5])]; rfl
      have HR := Lib.hid hr
      have q1 : (k == 1) = false := by simpa using h1
      have q2 : (k == 2) = false := by simpa using h2
      have q3 : (k == 3) = false := by simpa using h3
      have q4 : (k == 4) = false := by simpa using h4
      have q5 : (k == 5) = false := by simpa using h5
      have b0 : ((l : Int) != -1) = true := by rw [bne_iff_ne]; omega
      clear hr HT IH HM HLE
      go_enter Tryz.func25, Tryz.ntmps25
      go_wp2_with (fail)
      go_ret
      exact ⟨ret_bool HR.out.symm, HBOX.out _⟩

set_option maxRecDepth 100000 in
set_option maxHeartbeats 6400000 in
theorem refSame_walk : ∀ (m : Nat) (t u : Ty) (h h' : Hd) (p p' : Option Addr) (l c l' c' : Nat) (w : World), wt t ≤ m → TyIs w h p l c t → TyIs w h' p' l' c' u →
    Calls Tryz.prog 14 #[.agg #[.int .u8 h.k, .int .i64 h.v, .slice p l c], .agg #[.int .u8 h'.k, .int .i64 h'.v, .slice p' l' c']] w fun e w' => e = .returned (.bool (sameT t u)) ∧ Below w.heap.size w w' := by
  intro m
  induction m with
  | zero => intro t u h h' p p' l c l' c' w hm; have := wt_pos t; omega
  | succ m ih =>
    intro t u h h' p p' l c l' c' w hm hT hU
    obtain ⟨k, v⟩ := h
    obtain ⟨k', v'⟩ := h'
    have hlc := cap63 hT
    have hlc' := cap63 hU
    have hbox : ∀ O O' : Obj, Below w.heap.size w ((w.alloc O).alloc O') := fun O O' => ((Below.refl _ _).alloc (Nat.le_refl _) _).alloc (by simp) _
    have HBOX := Lib.hid hbox; have HM := Lib.hid hm
    clear hm hbox
    by_cases hk : k ≠ k'
    · have hr : sameT t u = false := by rw [sameT_eq, hT.head, hU.head]; simp [hk]
      have HR := Lib.hid hr
      have n1 : (k == k') = false := by simpa using hk
      have n2 : (k != k') = true := by simpa using hk
      clear hr hT hU ih hk
      go_enter Tryz.func14, Tryz.ntmps14
      go_wp2_with (fail)
      go_ret
      exact ⟨ret_bool HR.out.symm, HBOX.out _ _⟩
    have hk' : k = k' := Classical.not_not.1 hk
    clear hk
    subst hk'
    by_cases hv : v ≠ v'
    · have hr : sameT t u = false := by rw [sameT_eq, hT.head, hU.head]; simp [hv]
      have HR := Lib.hid hr
      have n1 : (v == v') = false := by simpa using hv
      have n2 : (v != v') = true := by simpa using hv
      clear hr hT hU ih hv
      go_enter Tryz.func14, Tryz.ntmps14
      go_wp2_with (fail)
      go_ret
      exact ⟨ret_bool HR.out.symm, HBOX.out _ _⟩
    have hv' : v = v' := Classical.not_not.1 hv
    clear hv
    subst hv'
    by_cases hll : l ≠ l'
    · have hr : sameT t u = false := by rw [sameT_eq, hT.len, hU.len]; simp [hll]
      have HR := Lib.hid hr
      have n1 : ((l : Int) == (l' : Int)) = false := by rw [beq_eq_false_iff_ne]; omega
      have n2 : ((l : Int) != (l' : Int)) = true := by rw [bne, n1]; rfl
      clear hr hT hU ih
      go_enter Tryz.func14, Tryz.ntmps14
      go_wp2_with (fail)
      go_ret
      exact ⟨ret_bool HR.out.symm, HBOX.out _ _⟩
    have hll' : l = l' := Classical.not_not.1 hll
    clear hll
    subst hll'
    have hr : sameT t u = sameK t.ks u.ks := by rw [sameT_eq, hT.head, hU.head, hT.len, hU.len]; simp
    have HR := Lib.hid hr; have HT := Lib.hid hT; have HU := Lib.hid hU; have IH := Lib.hid ih
    clear hr hT hU ih hlc'
    go_enter Tryz.func14, Tryz.ntmps14
    go_wp2_with (fail)
    go_loopw [5, 30] (fun _ i wr => ∃ j : Nat, j ≤ l ∧ i = .int .i64 j ∧ sameK t.ks u.ks = sameK (t.ks.drop j) (u.ks.drop j) ∧ Below ((w.alloc (.cells #[.int .u8 k, .int .i64 v, .slice p l c] 37)).alloc (.cells #[.int .u8 k, .int .i64 v, .slice p' l c'] 37)).heap.size ((w.alloc (.cells #[.int .u8 k, .int .i64 v, .slice p l c] 37)).alloc (.cells #[.int .u8 k, .int .i64 v, .slice p' l c'] 37)) wr) (fun _ i _ => l - (intOf i).toNat)
    case atStart => exact ⟨0, Nat.zero_le _, rfl, by rw [List.drop_zero, List.drop_zero], Below.refl _ _⟩
    case round =>
      obtain ⟨j, hj, rfl, hsk, hw⟩ := hrel
      have HW := Lib.hid hw; have HSK := Lib.hid hsk
      have hw1 : Below (w.alloc (.cells #[.int .u8 k, .int .i64 v, .slice p l c] 37)).heap.size (w.alloc (.cells #[.int .u8 k, .int .i64 v, .slice p l c] 37)) wr := ((Below.refl _ _).alloc (Nat.le_refl _) (.cells #[.int .u8 k, .int .i64 v, .slice p' l c'] 37)).trans (hw.mono (by simp))
      obtain ⟨b0, b1, b2⟩ := box3 (N := w.heap.size) rfl hw1
      obtain ⟨d0, d1, d2⟩ := box3 (N := w.heap.size + 1) (by simp) hw
      have HWW := Lib.hid ((HBOX.out _ _).trans (hw.mono (by simp; omega : w.heap.size ≤ _)))
      clear hw hsk hw1
      by_cases hlt : j < l
      · have hjk : j < t.ks.length := by rw [HT.out.len]; exact hlt
        have hjk' : j < u.ks.length := by rw [HU.out.len]; exact hlt
        have hst := HSK.out
        rw [sameK_step _ _ _ hjk hjk'] at hst
        obtain ⟨b, o, q, d, rfl, hkid, c0, c1, c2⟩ := (HT.out.kids.stay HWW.out).get j hjk
        obtain ⟨b', o', q', d', rfl, hkid', e0, e1, e2⟩ := (HU.out.kids.stay HWW.out).get j hjk'
        have hwk := wts_get hjk
        have hwt := wt_ks t
        have HST := Lib.hid hst; have HK := Lib.hid hkid; have HK' := Lib.hid hkid'
        have HWK := Lib.hid hwk; have HWT := Lib.hid hwt
        clear hst hkid hkid' hwk hwt hjk hjk'
        go_wp2_with (fail)
        go_still_tail 10, (by kernel_rfl)
        go_wp2_with (fail)
        refine (IH.out (tget t.ks j) (tget u.ks j) _ _ q q' _ d _ d' _ (by have := HM.out; have := HWK.out; have := HWT.out; omega) (HK.out.below (Below.refl _ _).drew) (HK'.out.below (Below.refl _ _).drew)).mono ?_
        rintro e w2 ⟨rfl, hb2⟩
        have HW2 := Lib.hid (HW.out.drew.trans (hb2.mono HW.out.size))
        have HWW2 := Lib.hid (HWW.out.drew.trans (hb2.mono HWW.out.size))
        clear hb2 b0 b1 b2 d0 d1 d2 c0 c1 c2 e0 e1 e2
        cases hs : sameT (tget t.ks j) (tget u.ks j)
        · have hr2 := HST.out
          rw [hs, Bool.false_and] at hr2
          have HR2 := Lib.hid hr2
          clear hr2 hs
          go_wp2
          go_ret
          exact ⟨ret_bool (by rw [HR.out, HR2.out]), HWW2.out⟩
        · have hr2 := HST.out
          rw [hs, Bool.true_and] at hr2
          have HR2 := Lib.hid hr2
          clear hr2 hs
          go_wp2
          go_roundw
          case rel => exact ⟨j + 1, by omega, by go_num, HR2.out, HW2.out⟩
          case measure => simp [intOf]; omega
      · obtain rfl : j = l := by omega
        have hr2 := HSK.out
        rw [List.drop_eq_nil_of_le (by rw [HT.out.len]; exact Nat.le_refl _), sameK_nil] at hr2
        have HR2 := Lib.hid hr2
        clear hr2
        go_wp2
        go_ret
        exact ⟨ret_bool (by rw [HR.out, HR2.out]), HWW.out⟩
end Types
end Go.Proofs.YtabegjpledammaaGreatDoor
