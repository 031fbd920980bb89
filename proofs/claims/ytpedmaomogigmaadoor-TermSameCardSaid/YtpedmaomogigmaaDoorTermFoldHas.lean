/- The program's way through all nodes: the walk, with the closure of Has. -/
import Derived.Test.YtpedmaomogigmaaDoorTermFold
namespace Go.Proofs.YtpedmaomogigmaaDoor
open Go.RowKit
set_option linter.unusedVariables false
namespace Term

set_option maxRecDepth 10000 in
set_option maxHeartbeats 6400000 in
theorem allHas_walk {σ : Type} (B : σ → Tm → Bool) (S : σ → Tm → σ) (w0 : World) (N K : Nat) (I : Nat → σ → World → Prop) (hI : Goes w0 N I) (hC : Steps 30 B S w0 N K I) :
    ∀ (m : Nat) (ts : List Tm) (p : Option Addr) (l d r : Nat) (s : σ) (w : World), wts ts ≤ m → ts.length = l → l ≤ maxLen → Kids w0 p ts → I (r + wts ts) s w →
    Calls Tryd.prog 23 #[.func (.func 30) #[] #[.pointer (some ⟨K, 0, none⟩)], .slice p l d] w (FoEnd N (I r) (foK B S ts s) w) := by
  have GI := Lib.hid hI; have GC := Lib.hid hC
  clear hI hC
  intro m
  induction m using Nat.strongRecOn with
  | _ m ih =>
    intro ts p l d r s w hm hl hlm hk hi
    unfold maxLen at hlm
    have HM := Lib.hid hm; have HL := Lib.hid hl; have HK := Lib.hid hk; have HI := Lib.hid hi; have IH := Lib.hid ih
    clear hm hl hk hi ih
    go_enter Tryd.func23, Tryd.ntmps23
    go_wp2_with (fail)
    go_loopw [6, 9] (fun _ i wr => ∃ (j : Nat) (u : σ), j ≤ l ∧ i = .int .i64 j ∧ Hid (foK B S ts s = foK B S (ts.drop j) u) ∧ Hid (I (r + wts (ts.drop j)) u wr) ∧ Hid (Stays N w wr)) (fun _ i _ => l - (intOf i).toNat)
    case atStart => exact ⟨0, s, Nat.zero_le _, rfl, Lib.hid (by rw [List.drop_zero]), Lib.hid (by rw [List.drop_zero]; exact HI.out), Lib.hid (Stays.refl _ _)⟩
    case round =>
      obtain ⟨j, u, hj, rfl, HF, HJ, HS⟩ := hrel
      by_cases hlt : j < l
      · have hjk : j < ts.length := by rw [HL.out]; exact hlt
        obtain ⟨b, o, q, c', rfl, hkid, c0, c1, c2, c3, c4, c5, c6, c7⟩ := HK.out.get j hjk
        have hB := GI.out.base _ _ _ HJ.out
        have hNw := GI.out.has _ _ _ HJ.out
        have e0 := hB _ _ c0
        have e1 := hB _ _ c1
        have e2 := hB _ _ c2
        have e3 := hB _ _ c3
        have e4 := hB _ _ c4
        have e5 := hB _ _ c5
        have e6 := hB _ _ c6
        have e7 := hB _ _ c7
        have hwd := wts_drop ts j hjk
        have hwm : wts (tget ts j).ks < wts ts := by have h1 := wts_get hjk; have h2 := wt_ks (tget ts j); omega
        have hin : I ((r + wts (ts.drop (j + 1))) + wts (tget ts j).ks + 1) u wr := GI.out.less _ _ _ _ HJ.out (by omega)
        have hstep := fun O : Obj => GI.out.keep _ _ _ _ hin ((Below.refl wr.heap.size wr).alloc (Nat.le_refl _) O)
        have HJK := Lib.hid hjk; have HKID := Lib.hid hkid; have HNW := Lib.hid hNw; have HWM := Lib.hid hwm; have HSTEP := Lib.hid hstep
        clear hjk hkid hB hNw c0 c1 c2 c3 c4 c5 c6 c7 hwd hwm hin hstep
        go_wp2_with (fail)
        refine (GC.out _ _ _ _ _ _ _ _ (HSTEP.out _) HKID.out).mono ?_
        rintro e w1 ⟨rfl, hi1, hs1⟩
        have b7 := box_stays HNW.out (by decide) hs1 7 rfl
        have HI1 := Lib.hid hi1
        have HS1 := Lib.hid ((HS.out.alloc _).trans hs1)
        clear hi1 hs1 e0 e1 e2 e3 e4 e5 e6 e7
        cases hb : B u (tget ts j)
        · have hno := foK_no B S HJK.out hb
          have HNO := Lib.hid hno; have HB := Lib.hid hb
          clear hno hb
          go_wp2
          go_ret
          exact ⟨ret_bool (by rw [HF.out, HNO.out]), (fun h => by rw [HF.out, HNO.out] at h; cases h), HS1.out⟩
        · have hi2 := HI1.out hb
          have HI2 := Lib.hid hi2; have HB := Lib.hid hb
          clear hi2 hb
          go_wp2_with (fail)
          refine (IH.out (wts (tget ts j).ks) (by have := HWM.out; have := HM.out; omega) (tget ts j).ks q _ c' (r + wts (ts.drop (j + 1))) _ _ (Nat.le_refl _) rfl (Nat.le_trans HKID.out.cap.1 HKID.out.cap.2) HKID.out.kids HI2.out).mono ?_
          rintro e w2 ⟨rfl, hi3, hs3⟩
          have HI3 := Lib.hid hi3
          have HS3 := Lib.hid (HS1.out.trans hs3)
          clear hi3 hs3 b7
          cases hk : (foK B S (tget ts j).ks (S u (tget ts j))).1
          · have hno := foK_kno B S HJK.out HB.out hk
            have HNO := Lib.hid hno; have HKB := Lib.hid hk
            clear hno hk
            go_wp2
            go_ret
            exact ⟨ret_bool (by rw [HF.out, HNO.out]), (fun h => by rw [HF.out, HNO.out] at h; cases h), HS3.out⟩
          · have hyes := foK_yes B S HJK.out HB.out hk
            have hi4 := HI3.out hk
            have HYES := Lib.hid hyes; have HI4 := Lib.hid hi4; have HKB := Lib.hid hk
            clear hyes hi4 hk
            go_wp2
            go_roundw
            case rel => exact ⟨j + 1, _, by omega, by go_num, Lib.hid (HF.out.trans HYES.out), HI4, HS3⟩
            case measure => simp [intOf]; omega
      · obtain rfl : j = l := by omega
        have hr := HF.out
        have hi := HJ.out
        rw [List.drop_eq_nil_of_le (by rw [HL.out]; exact Nat.le_refl _)] at hr hi
        rw [foK_nil] at hr
        rw [wts_nil] at hi
        have HR := Lib.hid hr; have HI2 := Lib.hid hi
        clear hr hi
        go_wp2
        go_ret
        exact ⟨ret_bool (by rw [HR.out]), (fun _ => by rw [HR.out]; exact HI2.out), HS.out⟩

end Term
end Go.Proofs.YtpedmaomogigmaaDoor
