/- The walk of the program's Depth. -/
import Derived.Test.YtpedmaomogigmaaDoorTermDepth
namespace Go.Proofs.YtpedmaomogigmaaDoor
open Go.RowKit
set_option linter.unusedVariables false
namespace Term

set_option maxRecDepth 10000 in
set_option maxHeartbeats 3200000 in
theorem depth_walk : ∀ (m : Nat) (ts : List Tm) (p : Option Addr) (l d : Nat) (w : World), wts ts ≤ m → wts ts ≤ 1000000 → ts.length = l → l ≤ maxLen → Kids w p ts →
    Calls Tryd.prog 17 #[.slice p l d] w fun e w' => e = .returned (.int .i64 (depK ts : Nat)) ∧ Below w.heap.size w w' := by
  intro m
  induction m using Nat.strongRecOn with
  | _ m ih =>
    intro ts p l d w hm hsz hl hlm hk
    have hdl := (dep_le (wts ts)).2 ts (Nat.le_refl _)
    have hdt := fun k => (dep_le (wts (ts.take k))).2 (ts.take k) (Nat.le_refl _)
    have hwt := fun k => wts_take_le ts k
    unfold maxLen at hlm
    have IH := Lib.hid ih; have HK := Lib.hid hk; have HM := Lib.hid hm; have HSZ := Lib.hid hsz; have HDL := Lib.hid hdl; have HDT := Lib.hid hdt; have HL := Lib.hid hl; have HWT := Lib.hid hwt
    clear ih hk hm hsz hdl hdt hl hwt
    go_enter Tryd.func17, Tryd.ntmps17
    go_wp2_with (fail)
    go_loopw [3, 5, 8] (fun N _ i wr => ∃ j : Nat, j ≤ l ∧ i = .int .i64 j ∧ N = .int .i64 (depK (ts.take j) : Nat) ∧ Hid (Below w.heap.size w wr)) (fun _ _ i _ => l - (intOf i).toNat)
    case atStart => exact ⟨0, Nat.zero_le _, rfl, by rw [List.take_zero, depK_nil]; rfl, Lib.hid (Below.refl _ _)⟩
    case round =>
      obtain ⟨j, hj, rfl, rfl, HW⟩ := hrel
      by_cases hlt : j < l
      · have hjk : j < ts.length := by rw [HL.out]; exact hlt
        have hst := depK_take ts j hjk
        obtain ⟨b, o, q, c', rfl, hkid, c0, c1, c2, c3, c4, c5, c6, c7⟩ := (HK.out.stay HW.out).get j hjk
        have hwk := wts_get hjk
        have hwt := wt_ks (tget ts j)
        have hde := depT_eq (tget ts j)
        have hb1 : depK (tget ts j).ks ≤ 1000000 := by have := (dep_le (wts (tget ts j).ks)).2 (tget ts j).ks (Nat.le_refl _); have := HSZ.out; omega
        have hb2 : depK (ts.take j) ≤ 1000000 := by have := HDT.out j; have := HWT.out j; have := HSZ.out; omega
        have hbox : ∀ O : Obj, Below wr.heap.size wr (wr.alloc O) := fun O => (Below.refl _ _).alloc (Nat.le_refl _) O
        have HST := Lib.hid hst; have HKI := Lib.hid hkid; have HDE := Lib.hid hde
        have HWK := Lib.hid hwk; have HWN := Lib.hid hwt; have HB1 := Lib.hid hb1; have HBOX := Lib.hid hbox
        clear hst hkid hwk hwt hjk hde hb1 hbox
        go_wp2_with (fail)
        refine (IH.out (wts (tget ts j).ks) (by have := HM.out; have := HWK.out; have := HWN.out; omega) (tget ts j).ks q _ c' _ (Nat.le_refl _) (by have := HSZ.out; have := HWK.out; have := HWN.out; omega) rfl (Nat.le_trans HKI.out.cap.1 HKI.out.cap.2) (HKI.out.kids.stay (HBOX.out _))).mono ?_
        rintro e w2 ⟨rfl, hb2'⟩
        have HW2 := Lib.hid (HW.out.trans ((HBOX.out _).mono HW.out.size |>.trans (hb2'.mono (Nat.le_trans HW.out.size (HBOX.out _).size))))
        have hb1 := HB1.out
        clear hb2' c0 c1 c2 c3 c4 c5 c6 c7
        generalize hX : depK (tget ts j).ks = X at *
        generalize hY : depK (ts.take j) = Y at *
        have HX := Lib.hid hX; have HY := Lib.hid hY
        clear hX hY
        by_cases hgt : (Y : Int) < 1 + (X : Int)
        · go_wp2
          go_roundw
          case rel => exact ⟨j + 1, by omega, by go_num, by rw [HST.out, HDE.out, Nat.max_eq_right (by omega)]; go_num, HW2⟩
          case measure => simp [intOf]; omega
        · go_wp2
          go_roundw
          case rel => exact ⟨j + 1, by omega, by go_num, by rw [HST.out, HDE.out, Nat.max_eq_left (by omega)], HW2⟩
          case measure => simp [intOf]; omega
      · obtain rfl : j = l := by omega
        have hall : ts.take j = ts := List.take_of_length_le (by rw [HL.out]; exact Nat.le_refl _)
        rw [hall]
        have hb1 : ((depK ts : Nat) : Int) ≤ 1000000 := by have := HDL.out; have := HSZ.out; omega
        generalize hY : depK ts = Y at *
        have HY := Lib.hid hY
        clear hall hY
        go_wp2_with (fail)
        go_ret
        exact ⟨ret_i64 (by rw [HY.out]), HW.out⟩
end Term
end Go.Proofs.YtpedmaomogigmaaDoor
