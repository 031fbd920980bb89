/-The walk of the document's May of types with regions. (Written by wip/tools/rtmay.py.) -/
import Derived.Test.YtfncpcijfphngaaGreatDoorGC08
import Derived.Test.YtfncpcijfphngaaGreatDoorGC11
namespace Go.Proofs.YtfncpcijfphngaaGreatDoor
open Go.RowKit
set_option linter.unusedVariables false
set_option linter.unusedSimpArgs false
namespace Rt
open Effect (At AtOk AtsAt Rd ofA ret_i64 ret_bool)

def MayOf (m : Nat) : Prop := ∀ (t : RT) (h : Hd) (pe : Option Addr) (ne ce : Nat) (p : Option Addr) (l c : Nat) (w : World), wt t ≤ m → RtIs w h pe ne ce p l c t → allT (effB 100000) t = true →
  Calls Tryz.prog 49 #[.agg #[.int .u8 h.k, .int .i64 h.r, .slice pe ne ce, .slice p l c]] w fun e w' => e = .returned (.bool (mayT t)) ∧ Below w.heap.size w w'
theorem may_false {t : RT} (h : ¬ ((t.ks.length : Int) = kidsN t.h.k ∧ 0 ≤ t.h.r ∧ (t.h.k = 1 → t.h.r ≤ 0) ∧ (t.h.k ≠ 4 → t.h.e = []) ∧ t.h.e = ofA t.h.e)) : mayT t = false := by
 rw [mayT_eq]; unfold nodeB; rw [decide_eq_false h]; rfl
theorem may_rest {t : RT} (h : (t.ks.length : Int) = kidsN t.h.k ∧ 0 ≤ t.h.r ∧ (t.h.k = 1 → t.h.r ≤ 0) ∧ (t.h.k ≠ 4 → t.h.e = []) ∧ t.h.e = ofA t.h.e) : mayT t = mayK t.ks := by
 rw [mayT_eq]; unfold nodeB; rw [decide_eq_true h]; rfl
set_option maxRecDepth 10000 in
set_option maxHeartbeats 12800000 in
theorem refMay_1 (m : Nat) (ih : MayOf m) (t : RT) (v : Int) (e : List At) (pe : Option Addr) (ne ce : Nat) (p : Option Addr) (l c : Nat) (w : World) (hm : wt t ≤ m + 1) (hT : RtIs w ⟨1, v, e⟩ pe ne ce p l c t) (hef : allT (effB 100000) t = true) :
  Calls Tryz.prog 49 #[.agg #[.int .u8 1, .int .i64 v, .slice pe ne ce, .slice p l c]] w fun e w' => e = .returned (.bool (mayT t)) ∧ Below w.heap.size w w' := by
 have hnc := (eff_iff.1 (by have := hef; rw [allT_eq, Bool.and_eq_true, hT.head] at this; exact this.1)).1
 have hkid := by have := hef; rw [allT_eq, Bool.and_eq_true] at this; exact this.2
 have hmay := fun O : Obj => Effect.refMay_walk (c := ce) (hT.eff.below (box_new O)).rd (by rw [← hT.elen]; exact hnc)
 have hlen := hT.elen
 obtain ⟨hlc, hncc⟩ := cap63 hT
 simp only at hnc hmay hlen
 have HMAY := Lib.hid hmay
 clear hmay hnc
 by_cases hl : l ≠ 0
 ·have hr : mayT t = false := may_false fun h => by
   rw [hT.head, hT.len] at h; unfold kidsN at h; have := h.1; simp at this; omega
  have b0 : ((l : Int) == 0) = false := by rw [beq_eq_false_iff_ne]; omega
  have b1 : ((l : Int) != 0) = true := by rw [bne, b0]; rfl
  have HR := Lib.hid hr
  clear hr hT ih hef hm HMAY hl hkid hlen
  go_enter Tryz.func49, Tryz.ntmps49
  go_wp2_with (fail)
  go_ret
  exact ⟨ret_bool HR.out.symm, box_new _⟩
 have hl' : l = 0 := Classical.not_not.1 hl
 clear hl
 subst hl'
 by_cases hv : v < 0
 ·have hr : mayT t = false := may_false fun h => by
   rw [hT.head, hT.len] at h; unfold kidsN at h; have := h.2.1; simp at this; omega
  have b0 : decide (v < 0) = true := decide_eq_true hv
  have HR := Lib.hid hr
  clear hr hT ih hef hm HMAY hkid hlen
  go_enter Tryz.func49, Tryz.ntmps49
  go_wp2_with (fail)
  go_ret
  exact ⟨ret_bool HR.out.symm, box_new _⟩
 by_cases hv0 : 0 < v
 ·have hr : mayT t = false := may_false fun h => by
   rw [hT.head, hT.len] at h; unfold kidsN at h; have := h.2.2.1 rfl; simp at this; omega
  have b0 : decide (v < 0) = false := decide_eq_false hv
  have b1 : decide (0 < v) = true := decide_eq_true hv0
  have HR := Lib.hid hr
  clear hr hT ih hef hm HMAY hkid hlen
  go_enter Tryz.func49, Tryz.ntmps49
  go_wp2_with (fail)
  go_ret
  exact ⟨ret_bool HR.out.symm, box_new _⟩
 have hvv : v = 0 := by omega
 clear hv hv0
 subst hvv
 by_cases hne : 0 < ne
 ·have hr : mayT t = false := may_false fun h => by
   rw [hT.head, hT.len] at h; unfold kidsN at h; have := h.2.2.2.1 (by simp); simp only at this; rw [this] at hlen; simp at hlen; omega
  have b3 : decide (0 < (ne : Int)) = true := decide_eq_true (by omega)
  have HR := Lib.hid hr
  clear hr hT ih hef hm HMAY hkid hlen
  go_enter Tryz.func49, Tryz.ntmps49
  go_wp2_with (fail)
  go_ret
  exact ⟨ret_bool HR.out.symm, box_new _⟩
 obtain rfl : ne = 0 := by omega
 obtain rfl : e = [] := List.length_eq_zero_iff.1 hlen
 have hmm : decide (([] : List At) = ofA []) = true := decide_eq_true of_nil.symm
 have HMM := Lib.hid hmm
 clear hmm hne
 have hr : mayT t = mayK t.ks := may_rest (by rw [hT.head, hT.len]; unfold kidsN; exact ⟨by simp, by simp, fun _ => by simp, fun _ => rfl, of_nil.symm⟩)
 have HR := Lib.hid hr; have HT := Lib.hid hT; have HM := Lib.hid hm; have IH := Lib.hid ih; have HKI := Lib.hid hkid
 clear hr hT hm ih hkid hef hlen
 have hbox : ∀ O : Obj, Below w.heap.size w (w.alloc O) := fun O => box_new O
 have HBOX := Lib.hid hbox
 clear hbox
 go_enter Tryz.func49, Tryz.ntmps49
 go_wp2_with (fail)
 refine (HMAY.out _).mono ?_
 rintro e1 w1 ⟨rfl, hb1⟩
 obtain ⟨c0, c1, c2, c3⟩ := box4 (N := w.heap.size) rfl hb1
 have HB1 := Lib.hid hb1
 clear hb1
 rw [HMM.out]
 go_wp2_with (fail)
 go_loopw [4, 66] (fun _ i wr => ∃ (j : Nat), j ≤ 0 ∧ i = .int .i64 j ∧ Hid (mayK t.ks = mayK (t.ks.drop j)) ∧
  Hid (Below (w.alloc (.cells #[.int .u8 1, .int .i64 0, .slice pe 0 ce, .slice p 0 c] 28)).heap.size (w.alloc (.cells #[.int .u8 1, .int .i64 0, .slice pe 0 ce, .slice p 0 c] 28)) wr)) (fun _ i _ => 0 - (intOf i).toNat)
 case atStart => exact ⟨0, Nat.zero_le _, rfl, Lib.hid (by rw [List.drop_zero]), HB1⟩
 case round =>
  obtain ⟨j, hj, rfl, HLK, HW⟩ := hrel
  obtain ⟨b0, b1, b2, b3⟩ := box4 (N := w.heap.size) rfl HW.out
  have HWW := Lib.hid ((HBOX.out _).trans (HW.out.mono (HBOX.out _).size))
  by_cases hlt : j < 0
  ·exact absurd hlt (Nat.not_lt_zero _)
  ·obtain rfl : j = 0 := by omega
   have hr := HLK.out
   rw [List.drop_eq_nil_of_le (by rw [HT.out.len]; exact Nat.le_refl _), mayK_nil] at hr
   have HR2 := Lib.hid hr; clear hr
   go_wp2_with (fail)
   go_ret
   exact ⟨ret_bool (by rw [HR.out, HR2.out]), HWW.out⟩
set_option maxRecDepth 10000 in
set_option maxHeartbeats 12800000 in
theorem refMay_2 (m : Nat) (ih : MayOf m) (t : RT) (v : Int) (e : List At) (pe : Option Addr) (ne ce : Nat) (p : Option Addr) (l c : Nat) (w : World) (hm : wt t ≤ m + 1) (hT : RtIs w ⟨2, v, e⟩ pe ne ce p l c t) (hef : allT (effB 100000) t = true) :
  Calls Tryz.prog 49 #[.agg #[.int .u8 2, .int .i64 v, .slice pe ne ce, .slice p l c]] w fun e w' => e = .returned (.bool (mayT t)) ∧ Below w.heap.size w w' := by
 have hnc := (eff_iff.1 (by have := hef; rw [allT_eq, Bool.and_eq_true, hT.head] at this; exact this.1)).1
 have hkid := by have := hef; rw [allT_eq, Bool.and_eq_true] at this; exact this.2
 have hmay := fun O : Obj => Effect.refMay_walk (c := ce) (hT.eff.below (box_new O)).rd (by rw [← hT.elen]; exact hnc)
 have hlen := hT.elen
 obtain ⟨hlc, hncc⟩ := cap63 hT
 simp only at hnc hmay hlen
 have HMAY := Lib.hid hmay
 clear hmay hnc
 by_cases hl : l ≠ 2
 ·have hr : mayT t = false := may_false fun h => by
   rw [hT.head, hT.len] at h; unfold kidsN at h; have := h.1; simp at this; omega
  have b0 : ((l : Int) == 2) = false := by rw [beq_eq_false_iff_ne]; omega
  have b1 : ((l : Int) != 2) = true := by rw [bne, b0]; rfl
  have HR := Lib.hid hr
  clear hr hT ih hef hm HMAY hl hkid hlen
  go_enter Tryz.func49, Tryz.ntmps49
  go_wp2_with (fail)
  go_ret
  exact ⟨ret_bool HR.out.symm, box_new _⟩
 have hl' : l = 2 := Classical.not_not.1 hl
 clear hl
 subst hl'
 by_cases hv : v < 0
 ·have hr : mayT t = false := may_false fun h => by
   rw [hT.head, hT.len] at h; unfold kidsN at h; have := h.2.1; simp at this; omega
  have b0 : decide (v < 0) = true := decide_eq_true hv
  have HR := Lib.hid hr
  clear hr hT ih hef hm HMAY hkid hlen
  go_enter Tryz.func49, Tryz.ntmps49
  go_wp2_with (fail)
  go_ret
  exact ⟨ret_bool HR.out.symm, box_new _⟩
 have b9 : decide (v < 0) = false := decide_eq_false hv
 by_cases hne : 0 < ne
 ·have hr : mayT t = false := may_false fun h => by
   rw [hT.head, hT.len] at h; unfold kidsN at h; have := h.2.2.2.1 (by simp); simp only at this; rw [this] at hlen; simp at hlen; omega
  have b3 : decide (0 < (ne : Int)) = true := decide_eq_true (by omega)
  have HR := Lib.hid hr
  clear hr hT ih hef hm HMAY hkid hlen
  go_enter Tryz.func49, Tryz.ntmps49
  go_wp2_with (fail)
  go_ret
  exact ⟨ret_bool HR.out.symm, box_new _⟩
 obtain rfl : ne = 0 := by omega
 obtain rfl : e = [] := List.length_eq_zero_iff.1 hlen
 have hmm : decide (([] : List At) = ofA []) = true := decide_eq_true of_nil.symm
 have HMM := Lib.hid hmm
 clear hmm hne
 have hr : mayT t = mayK t.ks := may_rest (by rw [hT.head, hT.len]; unfold kidsN; exact ⟨by simp, by simp; omega, fun e => absurd e (by simp), fun _ => rfl, of_nil.symm⟩)
 have HR := Lib.hid hr; have HT := Lib.hid hT; have HM := Lib.hid hm; have IH := Lib.hid ih; have HKI := Lib.hid hkid
 clear hr hT hm ih hkid hef hlen
 have hbox : ∀ O : Obj, Below w.heap.size w (w.alloc O) := fun O => box_new O
 have HBOX := Lib.hid hbox
 clear hbox
 go_enter Tryz.func49, Tryz.ntmps49
 go_wp2_with (fail)
 refine (HMAY.out _).mono ?_
 rintro e1 w1 ⟨rfl, hb1⟩
 obtain ⟨c0, c1, c2, c3⟩ := box4 (N := w.heap.size) rfl hb1
 have HB1 := Lib.hid hb1
 clear hb1
 rw [HMM.out]
 go_wp2_with (fail)
 go_loopw [4, 66] (fun _ i wr => ∃ (j : Nat), j ≤ 2 ∧ i = .int .i64 j ∧ Hid (mayK t.ks = mayK (t.ks.drop j)) ∧
  Hid (Below (w.alloc (.cells #[.int .u8 2, .int .i64 v, .slice pe 0 ce, .slice p 2 c] 28)).heap.size (w.alloc (.cells #[.int .u8 2, .int .i64 v, .slice pe 0 ce, .slice p 2 c] 28)) wr)) (fun _ i _ => 2 - (intOf i).toNat)
 case atStart => exact ⟨0, Nat.zero_le _, rfl, Lib.hid (by rw [List.drop_zero]), HB1⟩
 case round =>
  obtain ⟨j, hj, rfl, HLK, HW⟩ := hrel
  obtain ⟨b0, b1, b2, b3⟩ := box4 (N := w.heap.size) rfl HW.out
  have HWW := Lib.hid ((HBOX.out _).trans (HW.out.mono (HBOX.out _).size))
  by_cases hlt : j < 2
  ·have hjk : j < t.ks.length := by rw [HT.out.len]; exact hlt
   have hst := HLK.out
   rw [mayK_step _ _ hjk] at hst
   obtain ⟨b, o, q, c', qe, ce', rfl, hkid, d0, d1, d2, d3⟩ := (HT.out.kids.stay HWW.out).get j hjk
   have hwk := wts_get hjk
   have hwt := wt_ks t
   have hek := allK_get _ hjk HKI.out
   have HST := Lib.hid hst; have HK := Lib.hid hkid
   have HWK := Lib.hid hwk; have HWT := Lib.hid hwt; have HEK := Lib.hid hek
   clear hst hkid hwk hwt hjk hek c0 c1 c2 c3
   go_wp2_with (fail)
   refine (IH.out (tget t.ks j) _ qe _ ce' q _ c' _ (by have := HM.out; have := HWK.out; have := HWT.out; omega) HK.out HEK.out).mono ?_
   rintro e2 w2 ⟨rfl, hb2⟩
   have HW2 := Lib.hid (HW.out.trans (hb2.mono HW.out.size))
   have HWW2 := Lib.hid (HWW.out.trans (hb2.mono HWW.out.size))
   clear hb2 b0 b1 b2 b3 d0 d1 d2 d3
   cases hX : mayT (tget t.ks j)
   ·have hs := HST.out
    rw [hX, Bool.false_and] at hs
    have HS := Lib.hid hs
    clear hs hX
    go_wp2
    go_ret
    exact ⟨ret_bool (by rw [HR.out, HS.out]), HWW2.out⟩
   ·have hs := HST.out
    rw [hX, Bool.true_and] at hs
    have HS := Lib.hid hs
    clear hs hX
    go_wp2
    go_roundw
    case rel => exact ⟨j + 1, by omega, by go_num, HS, HW2⟩
    case measure => first | (simp [intOf]; done) | (simp [intOf]; omega)
  ·obtain rfl : j = 2 := by omega
   have hr := HLK.out
   rw [List.drop_eq_nil_of_le (by rw [HT.out.len]; exact Nat.le_refl _), mayK_nil] at hr
   have HR2 := Lib.hid hr; clear hr
   go_wp2_with (fail)
   go_ret
   exact ⟨ret_bool (by rw [HR.out, HR2.out]), HWW.out⟩
set_option maxRecDepth 10000 in
set_option maxHeartbeats 12800000 in
theorem refMay_3 (m : Nat) (ih : MayOf m) (t : RT) (v : Int) (e : List At) (pe : Option Addr) (ne ce : Nat) (p : Option Addr) (l c : Nat) (w : World) (hm : wt t ≤ m + 1) (hT : RtIs w ⟨3, v, e⟩ pe ne ce p l c t) (hef : allT (effB 100000) t = true) :
  Calls Tryz.prog 49 #[.agg #[.int .u8 3, .int .i64 v, .slice pe ne ce, .slice p l c]] w fun e w' => e = .returned (.bool (mayT t)) ∧ Below w.heap.size w w' := by
 have hnc := (eff_iff.1 (by have := hef; rw [allT_eq, Bool.and_eq_true, hT.head] at this; exact this.1)).1
 have hkid := by have := hef; rw [allT_eq, Bool.and_eq_true] at this; exact this.2
 have hmay := fun O : Obj => Effect.refMay_walk (c := ce) (hT.eff.below (box_new O)).rd (by rw [← hT.elen]; exact hnc)
 have hlen := hT.elen
 obtain ⟨hlc, hncc⟩ := cap63 hT
 simp only at hnc hmay hlen
 have HMAY := Lib.hid hmay
 clear hmay hnc
 by_cases hl : l ≠ 1
 ·have hr : mayT t = false := may_false fun h => by
   rw [hT.head, hT.len] at h; unfold kidsN at h; have := h.1; simp at this; omega
  have b0 : ((l : Int) == 1) = false := by rw [beq_eq_false_iff_ne]; omega
  have b1 : ((l : Int) != 1) = true := by rw [bne, b0]; rfl
  have HR := Lib.hid hr
  clear hr hT ih hef hm HMAY hl hkid hlen
  go_enter Tryz.func49, Tryz.ntmps49
  go_wp2_with (fail)
  go_ret
  exact ⟨ret_bool HR.out.symm, box_new _⟩
 have hl' : l = 1 := Classical.not_not.1 hl
 clear hl
 subst hl'
 by_cases hv : v < 0
 ·have hr : mayT t = false := may_false fun h => by
   rw [hT.head, hT.len] at h; unfold kidsN at h; have := h.2.1; simp at this; omega
  have b0 : decide (v < 0) = true := decide_eq_true hv
  have HR := Lib.hid hr
  clear hr hT ih hef hm HMAY hkid hlen
  go_enter Tryz.func49, Tryz.ntmps49
  go_wp2_with (fail)
  go_ret
  exact ⟨ret_bool HR.out.symm, box_new _⟩
 have b9 : decide (v < 0) = false := decide_eq_false hv
 by_cases hne : 0 < ne
 ·have hr : mayT t = false := may_false fun h => by
   rw [hT.head, hT.len] at h; unfold kidsN at h; have := h.2.2.2.1 (by simp); simp only at this; rw [this] at hlen; simp at hlen; omega
  have b3 : decide (0 < (ne : Int)) = true := decide_eq_true (by omega)
  have HR := Lib.hid hr
  clear hr hT ih hef hm HMAY hkid hlen
  go_enter Tryz.func49, Tryz.ntmps49
  go_wp2_with (fail)
  go_ret
  exact ⟨ret_bool HR.out.symm, box_new _⟩
 obtain rfl : ne = 0 := by omega
 obtain rfl : e = [] := List.length_eq_zero_iff.1 hlen
 have hmm : decide (([] : List At) = ofA []) = true := decide_eq_true of_nil.symm
 have HMM := Lib.hid hmm
 clear hmm hne
 have hr : mayT t = mayK t.ks := may_rest (by rw [hT.head, hT.len]; unfold kidsN; exact ⟨by simp, by simp; omega, fun e => absurd e (by simp), fun _ => rfl, of_nil.symm⟩)
 have HR := Lib.hid hr; have HT := Lib.hid hT; have HM := Lib.hid hm; have IH := Lib.hid ih; have HKI := Lib.hid hkid
 clear hr hT hm ih hkid hef hlen
 have hbox : ∀ O : Obj, Below w.heap.size w (w.alloc O) := fun O => box_new O
 have HBOX := Lib.hid hbox
 clear hbox
 go_enter Tryz.func49, Tryz.ntmps49
 go_wp2_with (fail)
 refine (HMAY.out _).mono ?_
 rintro e1 w1 ⟨rfl, hb1⟩
 obtain ⟨c0, c1, c2, c3⟩ := box4 (N := w.heap.size) rfl hb1
 have HB1 := Lib.hid hb1
 clear hb1
 rw [HMM.out]
 go_wp2_with (fail)
 go_loopw [4, 66] (fun _ i wr => ∃ (j : Nat), j ≤ 1 ∧ i = .int .i64 j ∧ Hid (mayK t.ks = mayK (t.ks.drop j)) ∧
  Hid (Below (w.alloc (.cells #[.int .u8 3, .int .i64 v, .slice pe 0 ce, .slice p 1 c] 28)).heap.size (w.alloc (.cells #[.int .u8 3, .int .i64 v, .slice pe 0 ce, .slice p 1 c] 28)) wr)) (fun _ i _ => 1 - (intOf i).toNat)
 case atStart => exact ⟨0, Nat.zero_le _, rfl, Lib.hid (by rw [List.drop_zero]), HB1⟩
 case round =>
  obtain ⟨j, hj, rfl, HLK, HW⟩ := hrel
  obtain ⟨b0, b1, b2, b3⟩ := box4 (N := w.heap.size) rfl HW.out
  have HWW := Lib.hid ((HBOX.out _).trans (HW.out.mono (HBOX.out _).size))
  by_cases hlt : j < 1
  ·have hjk : j < t.ks.length := by rw [HT.out.len]; exact hlt
   have hst := HLK.out
   rw [mayK_step _ _ hjk] at hst
   obtain ⟨b, o, q, c', qe, ce', rfl, hkid, d0, d1, d2, d3⟩ := (HT.out.kids.stay HWW.out).get j hjk
   have hwk := wts_get hjk
   have hwt := wt_ks t
   have hek := allK_get _ hjk HKI.out
   have HST := Lib.hid hst; have HK := Lib.hid hkid
   have HWK := Lib.hid hwk; have HWT := Lib.hid hwt; have HEK := Lib.hid hek
   clear hst hkid hwk hwt hjk hek c0 c1 c2 c3
   go_wp2_with (fail)
   refine (IH.out (tget t.ks j) _ qe _ ce' q _ c' _ (by have := HM.out; have := HWK.out; have := HWT.out; omega) HK.out HEK.out).mono ?_
   rintro e2 w2 ⟨rfl, hb2⟩
   have HW2 := Lib.hid (HW.out.trans (hb2.mono HW.out.size))
   have HWW2 := Lib.hid (HWW.out.trans (hb2.mono HWW.out.size))
   clear hb2 b0 b1 b2 b3 d0 d1 d2 d3
   cases hX : mayT (tget t.ks j)
   ·have hs := HST.out
    rw [hX, Bool.false_and] at hs
    have HS := Lib.hid hs
    clear hs hX
    go_wp2
    go_ret
    exact ⟨ret_bool (by rw [HR.out, HS.out]), HWW2.out⟩
   ·have hs := HST.out
    rw [hX, Bool.true_and] at hs
    have HS := Lib.hid hs
    clear hs hX
    go_wp2
    go_roundw
    case rel => exact ⟨j + 1, by omega, by go_num, HS, HW2⟩
    case measure => first | (simp [intOf]; done) | (simp [intOf]; omega)
  ·obtain rfl : j = 1 := by omega
   have hr := HLK.out
   rw [List.drop_eq_nil_of_le (by rw [HT.out.len]; exact Nat.le_refl _), mayK_nil] at hr
   have HR2 := Lib.hid hr; clear hr
   go_wp2_with (fail)
   go_ret
   exact ⟨ret_bool (by rw [HR.out, HR2.out]), HWW.out⟩
set_option maxRecDepth 10000 in
set_option maxHeartbeats 12800000 in
theorem refMay_4 (m : Nat) (ih : MayOf m) (t : RT) (v : Int) (e : List At) (pe : Option Addr) (ne ce : Nat) (p : Option Addr) (l c : Nat) (w : World) (hm : wt t ≤ m + 1) (hT : RtIs w ⟨4, v, e⟩ pe ne ce p l c t) (hef : allT (effB 100000) t = true) :
  Calls Tryz.prog 49 #[.agg #[.int .u8 4, .int .i64 v, .slice pe ne ce, .slice p l c]] w fun e w' => e = .returned (.bool (mayT t)) ∧ Below w.heap.size w w' := by
 have hnc := (eff_iff.1 (by have := hef; rw [allT_eq, Bool.and_eq_true, hT.head] at this; exact this.1)).1
 have hkid := by have := hef; rw [allT_eq, Bool.and_eq_true] at this; exact this.2
 have hmay := fun O : Obj => Effect.refMay_walk (c := ce) (hT.eff.below (box_new O)).rd (by rw [← hT.elen]; exact hnc)
 have hlen := hT.elen
 obtain ⟨hlc, hncc⟩ := cap63 hT
 simp only at hnc hmay hlen
 have HMAY := Lib.hid hmay
 clear hmay hnc
 by_cases hl : l ≠ 2
 ·have hr : mayT t = false := may_false fun h => by
   rw [hT.head, hT.len] at h; unfold kidsN at h; have := h.1; simp at this; omega
  have b0 : ((l : Int) == 2) = false := by rw [beq_eq_false_iff_ne]; omega
  have b1 : ((l : Int) != 2) = true := by rw [bne, b0]; rfl
  have HR := Lib.hid hr
  clear hr hT ih hef hm HMAY hl hkid hlen
  go_enter Tryz.func49, Tryz.ntmps49
  go_wp2_with (fail)
  go_ret
  exact ⟨ret_bool HR.out.symm, box_new _⟩
 have hl' : l = 2 := Classical.not_not.1 hl
 clear hl
 subst hl'
 by_cases hv : v < 0
 ·have hr : mayT t = false := may_false fun h => by
   rw [hT.head, hT.len] at h; unfold kidsN at h; have := h.2.1; simp at this; omega
  have b0 : decide (v < 0) = true := decide_eq_true hv
  have HR := Lib.hid hr
  clear hr hT ih hef hm HMAY hkid hlen
  go_enter Tryz.func49, Tryz.ntmps49
  go_wp2_with (fail)
  go_ret
  exact ⟨ret_bool HR.out.symm, box_new _⟩
 have b9 : decide (v < 0) = false := decide_eq_false hv
 cases hmm : decide (e = ofA e)
 ·have HMM := Lib.hid hmm
  clear hmm
  have hr : mayT t = false := may_false fun h => by
   rw [hT.head, hT.len] at h; unfold kidsN at h; exact (of_decide_eq_false HMM.out) h.2.2.2.2
  have HR := Lib.hid hr
  clear hr hT ih hef hm  hkid hlen
  go_enter Tryz.func49, Tryz.ntmps49
  go_wp2_with (fail)
  refine (HMAY.out _).mono ?_
  rintro e1 w1 ⟨rfl, hb1⟩
  obtain ⟨c0, c1, c2, c3⟩ := box4 (N := w.heap.size) rfl hb1
  have HB := Lib.hid (below_then (box_new _) hb1 (by simp))
  clear hb1
  rw [HMM.out]
  go_wp2_with (fail)
  go_ret
  exact ⟨ret_bool HR.out.symm, HB.out⟩
 have HMM := Lib.hid hmm
 clear hmm
 have hr : mayT t = mayK t.ks := may_rest (by rw [hT.head, hT.len]; unfold kidsN; exact ⟨by simp, by simp; omega, fun e => absurd e (by simp), fun e => absurd rfl e, of_decide_eq_true HMM.out⟩)
 have HR := Lib.hid hr; have HT := Lib.hid hT; have HM := Lib.hid hm; have IH := Lib.hid ih; have HKI := Lib.hid hkid
 clear hr hT hm ih hkid hef hlen
 have hbox : ∀ O : Obj, Below w.heap.size w (w.alloc O) := fun O => box_new O
 have HBOX := Lib.hid hbox
 clear hbox
 go_enter Tryz.func49, Tryz.ntmps49
 go_wp2_with (fail)
 refine (HMAY.out _).mono ?_
 rintro e1 w1 ⟨rfl, hb1⟩
 obtain ⟨c0, c1, c2, c3⟩ := box4 (N := w.heap.size) rfl hb1
 have HB1 := Lib.hid hb1
 clear hb1
 rw [HMM.out]
 go_wp2_with (fail)
 go_loopw [4, 66] (fun _ i wr => ∃ (j : Nat), j ≤ 2 ∧ i = .int .i64 j ∧ Hid (mayK t.ks = mayK (t.ks.drop j)) ∧
  Hid (Below (w.alloc (.cells #[.int .u8 4, .int .i64 v, .slice pe ne ce, .slice p 2 c] 28)).heap.size (w.alloc (.cells #[.int .u8 4, .int .i64 v, .slice pe ne ce, .slice p 2 c] 28)) wr)) (fun _ i _ => 2 - (intOf i).toNat)
 case atStart => exact ⟨0, Nat.zero_le _, rfl, Lib.hid (by rw [List.drop_zero]), HB1⟩
 case round =>
  obtain ⟨j, hj, rfl, HLK, HW⟩ := hrel
  obtain ⟨b0, b1, b2, b3⟩ := box4 (N := w.heap.size) rfl HW.out
  have HWW := Lib.hid ((HBOX.out _).trans (HW.out.mono (HBOX.out _).size))
  by_cases hlt : j < 2
  ·have hjk : j < t.ks.length := by rw [HT.out.len]; exact hlt
   have hst := HLK.out
   rw [mayK_step _ _ hjk] at hst
   obtain ⟨b, o, q, c', qe, ce', rfl, hkid, d0, d1, d2, d3⟩ := (HT.out.kids.stay HWW.out).get j hjk
   have hwk := wts_get hjk
   have hwt := wt_ks t
   have hek := allK_get _ hjk HKI.out
   have HST := Lib.hid hst; have HK := Lib.hid hkid
   have HWK := Lib.hid hwk; have HWT := Lib.hid hwt; have HEK := Lib.hid hek
   clear hst hkid hwk hwt hjk hek c0 c1 c2 c3
   go_wp2_with (fail)
   refine (IH.out (tget t.ks j) _ qe _ ce' q _ c' _ (by have := HM.out; have := HWK.out; have := HWT.out; omega) HK.out HEK.out).mono ?_
   rintro e2 w2 ⟨rfl, hb2⟩
   have HW2 := Lib.hid (HW.out.trans (hb2.mono HW.out.size))
   have HWW2 := Lib.hid (HWW.out.trans (hb2.mono HWW.out.size))
   clear hb2 b0 b1 b2 b3 d0 d1 d2 d3
   cases hX : mayT (tget t.ks j)
   ·have hs := HST.out
    rw [hX, Bool.false_and] at hs
    have HS := Lib.hid hs
    clear hs hX
    go_wp2
    go_ret
    exact ⟨ret_bool (by rw [HR.out, HS.out]), HWW2.out⟩
   ·have hs := HST.out
    rw [hX, Bool.true_and] at hs
    have HS := Lib.hid hs
    clear hs hX
    go_wp2
    go_roundw
    case rel => exact ⟨j + 1, by omega, by go_num, HS, HW2⟩
    case measure => first | (simp [intOf]; done) | (simp [intOf]; omega)
  ·obtain rfl : j = 2 := by omega
   have hr := HLK.out
   rw [List.drop_eq_nil_of_le (by rw [HT.out.len]; exact Nat.le_refl _), mayK_nil] at hr
   have HR2 := Lib.hid hr; clear hr
   go_wp2_with (fail)
   go_ret
   exact ⟨ret_bool (by rw [HR.out, HR2.out]), HWW.out⟩
set_option maxRecDepth 10000 in
set_option maxHeartbeats 12800000 in
theorem refMay_o (m : Nat) (ih : MayOf m) (t : RT) (k v : Int) (e : List At) (pe : Option Addr) (ne ce : Nat) (p : Option Addr) (l c : Nat) (w : World) (hm : wt t ≤ m + 1) (hT : RtIs w ⟨k, v, e⟩ pe ne ce p l c t) (hef : allT (effB 100000) t = true) (hk0 : 0 ≤ k ∧ k ≤ 255) (h1 : k ≠ 1) (h2 : k ≠ 2) (h3 : k ≠ 3) (h4 : k ≠ 4) :
  Calls Tryz.prog 49 #[.agg #[.int .u8 k, .int .i64 v, .slice pe ne ce, .slice p l c]] w fun e w' => e = .returned (.bool (mayT t)) ∧ Below w.heap.size w w' := by
 have hr : mayT t = false := may_false fun h => by
  rw [hT.head, hT.len] at h
  have h5 := h.1
  unfold kidsN at h5
  simp only [if_neg h1, if_neg h3, if_neg (show ¬ (k = 2 ∨ k = 4) from fun e => e.elim h2 h4)] at h5
  omega
 have b1 : (k == 1) = false := by simpa using h1
 have b2 : (k == 2) = false := by simpa using h2
 have b3 : (k == 3) = false := by simpa using h3
 have b4 : (k == 4) = false := by simpa using h4
 have HR := Lib.hid hr
 clear hr hT ih hef hm
 by_cases hlt : k < 1
 ·have b5 : decide (k < 1) = true := decide_eq_true hlt
  clear h1 h2 h3 h4
  go_enter Tryz.func49, Tryz.ntmps49
  go_wp2_with (fail)
  go_ret
  exact ⟨ret_bool HR.out.symm, box_new _⟩
 ·have b5 : decide (k < 1) = false := decide_eq_false hlt
  have b6 : decide (4 < k) = true := decide_eq_true (by omega)
  clear h1 h2 h3 h4
  go_enter Tryz.func49, Tryz.ntmps49
  go_wp2_with (fail)
  go_ret
  exact ⟨ret_bool HR.out.symm, box_new _⟩
theorem refMay_walk : ∀ m : Nat, MayOf m := by
 intro m
 induction m with
 | zero => intro t h pe ne ce p l c w hm; have := wt_pos t; omega
 | succ m ih =>
  intro t h pe ne ce p l c w hm hT hef
  have hk := hT.ok.k
  obtain ⟨k, v, e⟩ := h
  simp only at hk
  by_cases h1 : k = 1
  ·subst h1; exact refMay_1 m ih t v e pe ne ce p l c w hm hT hef
  by_cases h2 : k = 2
  ·subst h2; exact refMay_2 m ih t v e pe ne ce p l c w hm hT hef
  by_cases h3 : k = 3
  ·subst h3; exact refMay_3 m ih t v e pe ne ce p l c w hm hT hef
  by_cases h4 : k = 4
  ·subst h4; exact refMay_4 m ih t v e pe ne ce p l c w hm hT hef
  exact refMay_o m ih t k v e pe ne ce p l c w hm hT hef hk h1 h2 h3 h4
end Rt
end Go.Proofs.YtfncpcijfphngaaGreatDoor
