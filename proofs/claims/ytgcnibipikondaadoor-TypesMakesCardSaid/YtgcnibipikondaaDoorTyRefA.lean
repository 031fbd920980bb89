/- The walks of the document's Great, May, Has, Size and Same of types. -/
import Derived.Test.YtgcnibipikondaaDoorTyProg
import Derived.IntWalk
import Derived.StillTailTactics
namespace Go.Proofs.YtgcnibipikondaaDoor
open Go.RowKit
set_option linter.unusedVariables false
namespace Types

theorem cap63 {w : World} {h : Hd} {p : Option Addr} {l c : Nat} {t : Ty} (hT : TyIs w h p l c t) : l ≤ 9223372036854775807 := by have := hT.cap; unfold maxLen at this; omega
set_option maxRecDepth 10000 in
set_option maxHeartbeats 3200000 in
theorem left_walk : ∀ (m : Nat) (t : Ty) (h : Hd) (p : Option Addr) (l c : Nat) (n : Int) (w : World), wt t ≤ m → TyIs w h p l c t → 0 ≤ n → n ≤ 400 →
    Calls Tryd.prog 26 #[.agg #[.int .u8 h.k, .int .i64 h.v, .slice p l c], .int .i64 n] w fun e w' => e = .returned (.int .i64 (leftT t n)) ∧ Below w.heap.size w w' := by
  intro m
  induction m with
  | zero => intro t h p l c n w hm; have := wt_pos t; omega
  | succ m ih =>
    intro t h p l c n w hm hT hn0 hn1
    have hle := leftT_eq t n
    obtain ⟨k, v⟩ := h
    have hlc := cap63 hT
    have hbox : ∀ O : Obj, Below w.heap.size w (w.alloc O) := fun O => box_new O
    have HBOX := Lib.hid hbox; have IH := Lib.hid ih; have HT := Lib.hid hT; have HM := Lib.hid hm; have HLE := Lib.hid hle
    clear ih hT hm hbox hle
    go_enter Tryd.func26, Tryd.ntmps26
    go_wp2_with (fail)
    go_loopw [1, 5] (fun N i wr => ∃ (j : Nat) (M : Int), j ≤ l ∧ i = .int .i64 j ∧ N = .int .i64 M ∧ -1 ≤ M ∧ M ≤ 400 ∧ Hid (leftK t.ks (n - 1) = leftK (t.ks.drop j) M) ∧
      Hid (Below (w.alloc (.cells #[.int .u8 k, .int .i64 v, .slice p l c] 24)).heap.size (w.alloc (.cells #[.int .u8 k, .int .i64 v, .slice p l c] 24)) wr)) (fun _ i _ => l - (intOf i).toNat)
    case atStart => exact ⟨0, n - 1, Nat.zero_le _, rfl, rfl, by omega, by omega, Lib.hid (by rw [List.drop_zero]), Lib.hid (Below.refl _ _)⟩
    case round =>
      obtain ⟨j, M, hj, rfl, rfl, hM0, hM1, HLK, HW⟩ := hrel
      obtain ⟨b0, b1, b2⟩ := box3 (N := w.heap.size) rfl HW.out
      have HWW := Lib.hid ((HBOX.out _).trans (HW.out.mono (HBOX.out _).size))
      by_cases hlt : j < l
      · by_cases hneg : M < 0
        · have hr := HLK.out
          rw [leftK_neg _ _ hneg] at hr
          have HR := Lib.hid hr; clear hr
          go_wp2_with (fail)
          go_ret
          exact ⟨ret_i64 (by rw [HLE.out, HR.out]), HWW.out⟩
        · have hjk : j < t.ks.length := by rw [HT.out.len]; exact hlt
          have hst := HLK.out
          rw [leftK_step _ _ _ hjk hneg] at hst
          obtain ⟨b, o, q, c', rfl, hkid, c0, c1, c2⟩ := (HT.out.kids.stay HWW.out).get j hjk
          have hwk := wts_get hjk
          have hwt := wt_ks t
          have hlr1 := (left_range (wt (tget t.ks j))).1 (tget t.ks j) M (Nat.le_refl _) (by omega)
          have HST := Lib.hid hst; have HK := Lib.hid hkid
          have HWK := Lib.hid hwk; have HWT := Lib.hid hwt; have HLR := Lib.hid hlr1
          clear hst hkid hwk hwt hlr1 hjk
          go_wp2_with (fail)
          refine (IH.out (tget t.ks j) _ q _ c' M _ (by have := HM.out; have := HWK.out; have := HWT.out; omega) HK.out (by omega) hM1).mono ?_
          rintro e w2 ⟨rfl, hb2⟩
          have HW2 := Lib.hid (HW.out.trans (hb2.mono HW.out.size))
          clear hb2 b0 b1 b2 c0 c1 c2
          have hx0 : -1 ≤ leftT (tget t.ks j) M := HLR.out.1
          have hx1 : leftT (tget t.ks j) M ≤ 400 := by have := HLR.out.2; omega
          generalize hX : leftT (tget t.ks j) M = X at *
          have HX := Lib.hid hX; clear hX
          go_wp2
          go_roundw
          case rel => exact ⟨j + 1, X, by omega, by go_num, rfl, hx0, hx1, HST, HW2⟩
          case measure => simp [intOf]; omega
      · obtain rfl : j = l := by omega
        have hr := HLK.out
        rw [List.drop_eq_nil_of_le (by rw [HT.out.len]; exact Nat.le_refl _), leftK_nil] at hr
        have HR := Lib.hid hr; clear hr
        go_wp2_with (fail)
        go_ret
        exact ⟨ret_i64 (by rw [HLE.out, HR.out]), HWW.out⟩
theorem great_walk (t : Ty) (h : Hd) (p : Option Addr) (l c : Nat) (w : World) (hT : TyIs w h p l c t) :
    Calls Tryd.prog 8 #[.agg #[.int .u8 h.k, .int .i64 h.v, .slice p l c]] w fun e w' => e = .returned (.bool (greatB t)) ∧ Below w.heap.size w w' := by
  obtain ⟨k, v⟩ := h
  have hbox : ∀ O : Obj, Below w.heap.size w (w.alloc O) := fun O => box_new O
  have HBOX := Lib.hid hbox; have HT := Lib.hid hT
  clear hT hbox
  go_enter Tryd.func8, Tryd.ntmps8
  go_wp2_with (fail)
  refine (left_walk _ t _ p l c 400 _ (Nat.le_refl _) (HT.out.below (HBOX.out _)) (by omega) (by omega)).mono ?_
  rintro e w1 ⟨rfl, hb⟩
  have HB := Lib.hid ((HBOX.out _).trans (hb.mono (HBOX.out _).size)); clear hb
  have hg : greatB t = decide (leftT t 400 < 0) := rfl
  have HG := Lib.hid hg; clear hg
  generalize leftT t 400 = X at *
  go_wp2
  go_ret
  exact ⟨ret_bool HG.out.symm, HB.out⟩

/-! ### Has -/
set_option maxRecDepth 10000 in
set_option maxHeartbeats 3200000 in
theorem refHas_walk (kd : Int) : ∀ (m : Nat) (t : Ty) (h : Hd) (p : Option Addr) (l c : Nat) (w : World), wt t ≤ m → TyIs w h p l c t →
    Calls Tryd.prog 14 #[.agg #[.int .u8 h.k, .int .i64 h.v, .slice p l c], .int .u8 kd] w fun e w' => e = .returned (.bool (hasT kd t)) ∧ Below w.heap.size w w' := by
  intro m
  induction m with
  | zero => intro t h p l c w hm; have := wt_pos t; omega
  | succ m ih =>
    intro t h p l c w hm hT
    have hle := hasT_eq kd t
    rw [hT.head] at hle
    obtain ⟨k, v⟩ := h
    have hlc := cap63 hT
    have hbox : ∀ O : Obj, Below w.heap.size w (w.alloc O) := fun O => box_new O
    by_cases hk : k = kd
    · subst hk
      have hr : hasT k t = true := by rw [hle]; simp
      have HR := Lib.hid hr; have HBOX := Lib.hid hbox
      clear hr hle hT ih hbox
      have e1 : (k == k) = true := by simp
      go_enter Tryd.func14, Tryd.ntmps14
      go_wp2_with (fail)
      go_ret
      exact ⟨ret_bool HR.out.symm, HBOX.out _⟩
    · have hr : hasT kd t = hasK kd t.ks := by rw [hle]; simp [hk]
      have e1 : (k == kd) = false := by simpa using hk
      have HBOX := Lib.hid hbox; have IH := Lib.hid ih; have HT := Lib.hid hT; have HM := Lib.hid hm; have HLE := Lib.hid hr
      clear ih hT hm hbox hle hr hk
      go_enter Tryd.func14, Tryd.ntmps14
      go_wp2_with (fail)
      go_loopw [5, 13] (fun _ i wr => ∃ (j : Nat), j ≤ l ∧ i = .int .i64 j ∧ Hid (hasK kd t.ks = hasK kd (t.ks.drop j)) ∧
        Hid (Below (w.alloc (.cells #[.int .u8 k, .int .i64 v, .slice p l c] 24)).heap.size (w.alloc (.cells #[.int .u8 k, .int .i64 v, .slice p l c] 24)) wr)) (fun _ i _ => l - (intOf i).toNat)
      case atStart => exact ⟨0, Nat.zero_le _, rfl, Lib.hid (by rw [List.drop_zero]), Lib.hid (Below.refl _ _)⟩
      case round =>
        obtain ⟨j, hj, rfl, HLK, HW⟩ := hrel
        obtain ⟨b0, b1, b2⟩ := box3 (N := w.heap.size) rfl HW.out
        have HWW := Lib.hid ((HBOX.out _).trans (HW.out.mono (HBOX.out _).size))
        by_cases hlt : j < l
        · have hjk : j < t.ks.length := by rw [HT.out.len]; exact hlt
          have hst := HLK.out
          rw [hasK_step _ _ _ hjk] at hst
          obtain ⟨b, o, q, c', rfl, hkid, c0, c1, c2⟩ := (HT.out.kids.stay HWW.out).get j hjk
          have hwk := wts_get hjk
          have hwt := wt_ks t
          have HST := Lib.hid hst; have HK := Lib.hid hkid
          have HWK := Lib.hid hwk; have HWT := Lib.hid hwt
          clear hst hkid hwk hwt hjk
          go_wp2_with (fail)
          refine (IH.out (tget t.ks j) _ q _ c' _ (by have := HM.out; have := HWK.out; have := HWT.out; omega) HK.out).mono ?_
          rintro e w2 ⟨rfl, hb2⟩
          have HW2 := Lib.hid (HW.out.trans (hb2.mono HW.out.size))
          have HWW2 := Lib.hid (HWW.out.trans (hb2.mono HWW.out.size))
          clear hb2 b0 b1 b2 c0 c1 c2
          cases hX : hasT kd (tget t.ks j)
          · have hs := HST.out
            rw [hX, Bool.false_or] at hs
            have HS := Lib.hid hs
            clear hs hX
            go_wp2
            go_roundw
            case rel => exact ⟨j + 1, by omega, by go_num, HS, HW2⟩
            case measure => simp [intOf]; omega
          · have hs := HST.out
            rw [hX, Bool.true_or] at hs
            have HS := Lib.hid hs
            clear hs hX
            go_wp2
            go_ret
            exact ⟨ret_bool (by rw [HLE.out, HS.out]), HWW2.out⟩
        · obtain rfl : j = l := by omega
          have hr := HLK.out
          rw [List.drop_eq_nil_of_le (by rw [HT.out.len]; exact Nat.le_refl _), hasK_nil] at hr
          have HR := Lib.hid hr; clear hr
          go_wp2_with (fail)
          go_ret
          exact ⟨ret_bool (by rw [HLE.out, HR.out]), HWW.out⟩

/-! ### Size -/
theorem wts_take_step (ts : List Ty) (j : Nat) (hj : j < ts.length) : wts (ts.take (j + 1)) = wts (ts.take j) + wt (tget ts j) := by
  rw [take_tget ts j hj, wts_append, wts_cons, wts_nil]; omega
set_option maxRecDepth 10000 in
set_option maxHeartbeats 3200000 in
theorem refSize_walk : ∀ (m : Nat) (t : Ty) (h : Hd) (p : Option Addr) (l c : Nat) (w : World), wt t ≤ m → m ≤ 1000000 → TyIs w h p l c t →
    Calls Tryd.prog 17 #[.agg #[.int .u8 h.k, .int .i64 h.v, .slice p l c]] w fun e w' => e = .returned (.int .i64 (wt t : Nat)) ∧ Below w.heap.size w w' := by
  intro m
  induction m with
  | zero => intro t h p l c w hm; have := wt_pos t; omega
  | succ m ih =>
    intro t h p l c w hm hmm hT
    obtain ⟨k, v⟩ := h
    have hlc := cap63 hT
    have hbox : ∀ O : Obj, Below w.heap.size w (w.alloc O) := fun O => box_new O
    have hwt := wt_ks t
    have HBOX := Lib.hid hbox; have IH := Lib.hid ih; have HT := Lib.hid hT; have HM := Lib.hid (And.intro hm hmm); have HWT := Lib.hid hwt
    clear ih hT hm hbox hwt hmm
    go_enter Tryd.func17, Tryd.ntmps17
    go_wp2_with (fail)
    go_loopw [3, 4, 8] (fun N _ i wr => ∃ (j M : Nat), j ≤ l ∧ i = .int .i64 j ∧ N = .int .i64 M ∧ M ≤ 1000000 ∧ Hid (M = wts (t.ks.take j) + 1) ∧
      Hid (Below (w.alloc (.cells #[.int .u8 k, .int .i64 v, .slice p l c] 24)).heap.size (w.alloc (.cells #[.int .u8 k, .int .i64 v, .slice p l c] 24)) wr)) (fun _ _ i _ => l - (intOf i).toNat)
    case atStart => exact ⟨0, 1, Nat.zero_le _, rfl, rfl, by omega, Lib.hid (by rw [List.take_zero, wts_nil]), Lib.hid (Below.refl _ _)⟩
    case round =>
      obtain ⟨j, M, hj, rfl, rfl, hM1, HLK, HW⟩ := hrel
      obtain ⟨b0, b1, b2⟩ := box3 (N := w.heap.size) rfl HW.out
      have HWW := Lib.hid ((HBOX.out _).trans (HW.out.mono (HBOX.out _).size))
      by_cases hlt : j < l
      · have hjk : j < t.ks.length := by rw [HT.out.len]; exact hlt
        have hst := wts_take_step t.ks j hjk
        obtain ⟨b, o, q, c', rfl, hkid, c0, c1, c2⟩ := (HT.out.kids.stay HWW.out).get j hjk
        have hwk := wts_get hjk
        have htl := wts_take_le t.ks (j + 1)
        have HST := Lib.hid hst; have HK := Lib.hid hkid
        have HWK := Lib.hid hwk; have HTL := Lib.hid htl
        clear hst hkid hwk hjk htl
        go_wp2_with (fail)
        refine (IH.out (tget t.ks j) _ q _ c' _ (by have := HM.out; have := HWK.out; have := HWT.out; omega) (by have := HM.out; omega) HK.out).mono ?_
        rintro e w2 ⟨rfl, hb2⟩
        have HW2 := Lib.hid (HW.out.trans (hb2.mono HW.out.size))
        clear hb2 b0 b1 b2 c0 c1 c2
        have hx0 : M + wt (tget t.ks j) = wts (t.ks.take (j + 1)) + 1 := by rw [HST.out, HLK.out]; omega
        have hx1 : M + wt (tget t.ks j) ≤ 1000000 := by have := HTL.out; have := HM.out; have := HWT.out; omega
        have HX0 := Lib.hid hx0
        clear hx0
        generalize wt (tget t.ks j) = X at *
        go_wp2
        go_roundw
        case rel => exact ⟨j + 1, M + X, by omega, by go_num, by go_num, hx1, HX0, HW2⟩
        case measure => simp [intOf]; omega
      · obtain rfl : j = l := by omega
        have hr := HLK.out
        rw [List.take_of_length_le (by rw [HT.out.len]; exact Nat.le_refl _), ← HWT.out] at hr
        have HR := Lib.hid hr; clear hr
        go_wp2_with (fail)
        go_ret
        exact ⟨by rw [← HR.out]; rfl, HWW.out⟩
end Types
end Go.Proofs.YtgcnibipikondaaDoor
