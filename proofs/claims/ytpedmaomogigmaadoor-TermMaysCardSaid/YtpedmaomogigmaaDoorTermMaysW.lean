/- The walk of layer 4's statement on what may be. -/
import Derived.Test.YtpedmaomogigmaaDoorTermRefMay
import Derived.Test.YtpedmaomogigmaaDoorTermAwake
namespace Go.Proofs.YtpedmaomogigmaaDoor
open Go.RowKit Go.BigFrame
set_option linter.unusedVariables false
namespace Term

set_option maxRecDepth 100000 in
set_option maxHeartbeats 12800000 in
theorem mays_walk (h : Hd) (p : Option Addr) (l c : Nat) (t : Tm) (w : World) (hT : TmIs w h p l c t) (hkw : Words.KwLaid w) :
    Calls Tryd.prog 3 #[.agg #[.int .u8 h.k, .int .u8 h.op, .int .i64 h.pl, .int .i64 h.n, .string h.name, .string h.arg, .string h.exn, .slice p l c]] w fun e w' => e = .returned (.bool true) ∧ Below w.heap.size w w' := by
  have hbox : ∀ O : Obj, Below w.heap.size w (w.alloc O) := fun O => (Below.refl _ _).alloc (Nat.le_refl _) O
  have hg := fun O => great_walk t h p l c (w.alloc O) (hT.below (hbox O))
  obtain ⟨k, op, pl, nn, nm, ar, ex⟩ := h
  have hfrom : ∀ W, Below (w.alloc (.cells #[.int .u8 k, .int .u8 op, .int .i64 pl, .int .i64 nn, .string nm, .string ar, .string ex, .slice p l c] 26)).heap.size (w.alloc (.cells #[.int .u8 k, .int .u8 op, .int .i64 pl, .int .i64 nn, .string nm, .string ar, .string ex, .slice p l c] 26)) W → Below w.heap.size w W := fun W hb => (hbox _).trans (hb.mono (hbox _).size)
  have HBOX := Lib.hid hbox; have HFROM := Lib.hid hfrom
  cases hgr : greatB t
  case true =>
    rw [hgr] at hg
    have HG := Lib.hid hg; have HKW := Lib.hid hkw
    clear hbox hg hT hgr hkw hfrom
    go_enter Tryd.func3, Tryd.ntmps3
    go_wp2_with (fail)
    refine (HG.out _).mono ?_
    rintro e w1 ⟨rfl, hb1⟩
    have HB1 := Lib.hid (HFROM.out _ hb1); clear hb1
    go_wp2_with (fail)
    refine (awake_walk _ (HKW.out.below HB1.out)).mono ?_
    rintro e w2 ⟨rfl, hb2⟩
    have HB2 := Lib.hid (below_then HB1.out hb2 HB1.out.size); clear hb2
    go_wp2
    go_ret
    exact ⟨rfl, HB2.out⟩
  have hsm := (small_of hgr).1
  rw [hgr] at hg
  have hm := fun W (hC : Below (w.alloc (.cells #[.int .u8 k, .int .u8 op, .int .i64 pl, .int .i64 nn, .string nm, .string ar, .string ex, .slice p l c] 26)).heap.size (w.alloc (.cells #[.int .u8 k, .int .u8 op, .int .i64 pl, .int .i64 nn, .string nm, .string ar, .string ex, .slice p l c] 26)) W) => (may_walk t ⟨k, op, pl, nn, nm, ar, ex⟩ p l c W (hT.below (hfrom W hC)) (hkw.below (hfrom W hC))).mono fun e w' h => (⟨h.1, below_then hC h.2 hC.size⟩ : e = .returned (.bool (mayT t)) ∧ Below (w.alloc (.cells #[.int .u8 k, .int .u8 op, .int .i64 pl, .int .i64 nn, .string nm, .string ar, .string ex, .slice p l c] 26)).heap.size (w.alloc (.cells #[.int .u8 k, .int .u8 op, .int .i64 pl, .int .i64 nn, .string nm, .string ar, .string ex, .slice p l c] 26)) w')
  have hr := fun W (hC : Below (w.alloc (.cells #[.int .u8 k, .int .u8 op, .int .i64 pl, .int .i64 nn, .string nm, .string ar, .string ex, .slice p l c] 26)).heap.size (w.alloc (.cells #[.int .u8 k, .int .u8 op, .int .i64 pl, .int .i64 nn, .string nm, .string ar, .string ex, .slice p l c] 26)) W) => (refMay_walk t ⟨k, op, pl, nn, nm, ar, ex⟩ p l c W (hT.below (hfrom W hC)) (by omega)).mono fun e w' h => (⟨h.1, below_then hC h.2 hC.size⟩ : e = .returned (.bool (mayT t)) ∧ Below (w.alloc (.cells #[.int .u8 k, .int .u8 op, .int .i64 pl, .int .i64 nn, .string nm, .string ar, .string ex, .slice p l c] 26)).heap.size (w.alloc (.cells #[.int .u8 k, .int .u8 op, .int .i64 pl, .int .i64 nn, .string nm, .string ar, .string ex, .slice p l c] 26)) w')
  have ha := fun W (hC : Below (w.alloc (.cells #[.int .u8 k, .int .u8 op, .int .i64 pl, .int .i64 nn, .string nm, .string ar, .string ex, .slice p l c] 26)).heap.size (w.alloc (.cells #[.int .u8 k, .int .u8 op, .int .i64 pl, .int .i64 nn, .string nm, .string ar, .string ex, .slice p l c] 26)) W) => (awake_walk W (hkw.below (hfrom W hC))).mono fun e w' h => (⟨h.1, below_then hC h.2 hC.size⟩ : e = .returned (.bool true) ∧ Below (w.alloc (.cells #[.int .u8 k, .int .u8 op, .int .i64 pl, .int .i64 nn, .string nm, .string ar, .string ex, .slice p l c] 26)).heap.size (w.alloc (.cells #[.int .u8 k, .int .u8 op, .int .i64 pl, .int .i64 nn, .string nm, .string ar, .string ex, .slice p l c] 26)) w')
  generalize mayT t = J at hm hr
  have HG := Lib.hid hg; have HM := Lib.hid hm; have HR := Lib.hid hr; have HA := Lib.hid ha
  clear hbox hg hT hgr hkw hfrom hsm hm hr ha
  go_enter Tryd.func3, Tryd.ntmps3
  go_wp2_with (fail)
  refine (HG.out _).mono ?_
  rintro e w1 ⟨rfl, hb1⟩
  have HB1 := Lib.hid hb1; clear hb1
  go_wp2_with (fail)
  refine region_quiet_lit (C := fun W => Below (w.alloc (.cells #[.int .u8 k, .int .u8 op, .int .i64 pl, .int .i64 nn, .string nm, .string ar, .string ex, .slice p l c] 26)).heap.size (w.alloc (.cells #[.int .u8 k, .int .u8 op, .int .i64 pl, .int .i64 nn, .string nm, .string ar, .string ex, .slice p l c] 26)) W) (by kernel_rfl) (by kernel_rfl) HB1.out.drew ?_
  (go_big_quiet_want; refine quiet_run (.agg #[.int .u8 k, .int .u8 op, .int .i64 pl, .int .i64 nn, .string nm, .string ar, .string ex, .slice p l c]) (fun W hC => ?_) ?_; (obtain ⟨d0, d1, d2, d3, d4, d5, d6, d7⟩ := box8 (N := w.heap.size) rfl hC; clear hC; go_simp); simp only [Act.put, List.setIfInBounds_toArray, List.set_cons_zero, List.set_cons_succ]; go_big_quiet_on)
  (go_big_quiet_want; refine quiet_call (.bool J) 10 #[.agg #[.int .u8 k, .int .u8 op, .int .i64 pl, .int .i64 nn, .string nm, .string ar, .string ex, .slice p l c]] (fun W => ?_) (fun W hC => HM.out W hC) ?_; go_simp; simp only [Act.put, List.setIfInBounds_toArray, List.set_cons_zero, List.set_cons_succ]; go_big_quiet_on)
  (go_big_quiet_want; refine quiet_run (.agg #[.int .u8 k, .int .u8 op, .int .i64 pl, .int .i64 nn, .string nm, .string ar, .string ex, .slice p l c]) (fun W hC => ?_) ?_; (obtain ⟨d0, d1, d2, d3, d4, d5, d6, d7⟩ := box8 (N := w.heap.size) rfl hC; clear hC; go_simp); simp only [Act.put, List.setIfInBounds_toArray, List.set_cons_zero, List.set_cons_succ]; go_big_quiet_on)
  (go_big_quiet_want; refine quiet_call (.bool J) 11 #[.agg #[.int .u8 k, .int .u8 op, .int .i64 pl, .int .i64 nn, .string nm, .string ar, .string ex, .slice p l c]] (fun W => ?_) (fun W hC => HR.out W hC) ?_; go_simp; simp only [Act.put, List.setIfInBounds_toArray, List.set_cons_zero, List.set_cons_succ]; go_big_quiet_on)
  (go_big_quiet_want; refine quiet_run (.bool true) (fun W hC => ?_) ?_; (obtain ⟨d0, d1, d2, d3, d4, d5, d6, d7⟩ := box8 (N := w.heap.size) rfl hC; clear hC; go_simp); simp only [Act.put, List.setIfInBounds_toArray, List.set_cons_zero, List.set_cons_succ]; go_big_quiet_on)
  (go_big_quiet_want; refine quiet_run (.bool true) (fun W hC => ?_) ?_; (obtain ⟨d0, d1, d2, d3, d4, d5, d6, d7⟩ := box8 (N := w.heap.size) rfl hC; clear hC; go_simp); simp only [Act.put, List.setIfInBounds_toArray, List.set_cons_zero, List.set_cons_succ]; go_big_quiet_on)
  (go_big_quiet_want; refine quiet_call (.bool true) 9 #[] (fun W => ?_) (fun W hC => HA.out W hC) ?_; go_simp; simp only [Act.put, List.setIfInBounds_toArray, List.set_cons_zero, List.set_cons_succ]; go_big_quiet_on)
  (go_big_quiet_want; refine quiet_run (.bool true) (fun W hC => ?_) ?_; (obtain ⟨d0, d1, d2, d3, d4, d5, d6, d7⟩ := box8 (N := w.heap.size) rfl hC; clear hC; go_simp); simp only [Act.put, List.setIfInBounds_toArray, List.set_cons_zero, List.set_cons_succ]; go_big_quiet_on)
  (go_big_quiet_want; refine quiet_run (.bool true) (fun W hC => ?_) ?_; (obtain ⟨d0, d1, d2, d3, d4, d5, d6, d7⟩ := box8 (N := w.heap.size) rfl hC; clear hC; go_simp); simp only [Act.put, List.setIfInBounds_toArray, List.set_cons_zero, List.set_cons_succ]; go_big_quiet_on)
  refine wpQuiet_nil ?_
  intro w2 hC
  have HC := Lib.hid (HFROM.out _ hC); clear hC
  go_wp2_with (fail)
  go_ret
  exact ⟨rfl, HC.out⟩
end Term
end Go.Proofs.YtpedmaomogigmaaDoor
