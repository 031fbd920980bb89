/-The program's odd and inRegion, and its way through all nodes with odd: May. The program's way through all nodes with a function that is handed each: each, and some with each$1. The program's writer: what it has, and how words are put. The walk of the program's writer: typ. (Written by wip/tools/rttyp.py.) -/
import Derived.Test.YtfncpcijfphngaaGreatDoorGC07
import Derived.Test.YtfncpcijfphngaaGreatDoorGC04
import Derived.IntWalk
import Derived.Laws.EntriesVeiled
import Derived.Test.YtfncpcijfphngaaGreatDoorGC10
import Derived.OwnWalk
import Derived.Laws.AppendOwn
import Derived.Laws.AppendOwnNone
import Derived.LoopTactic
namespace Go.Proofs.YtfncpcijfphngaaGreatDoor
open Go.RowKit
set_option linter.unusedVariables false
set_option linter.unusedSimpArgs false
namespace Rt
open Effect (At AtOk AtsAt Rd ofA ret_i64 ret_bool)

theorem inRegion_walk (h : Hd) (pe : Option Addr) (ne ce : Nat) (p : Option Addr) (l c : Nat) (w : World) :
  Calls Tryz.prog 146 #[.agg #[.int .u8 h.k, .int .i64 h.r, .slice pe ne ce, .slice p l c]] w fun e w' => e = .returned (.bool (decide (h.k ≠ 1))) ∧ Below w.heap.size w w' := by
 obtain ⟨k, v, e⟩ := h
 have hr : decide (k ≠ 1) = (k != 1) := by simp [bne, Bool.beq_eq_decide_eq]
 have HR := Lib.hid hr
 clear hr
 go_enter Tryz.func146, Tryz.ntmps146
 go_wp2
 go_ret
 exact ⟨ret_bool HR.out.symm, box_new _⟩

theorem of_nil : ofA [] = [] := rfl
/-- What odd tells of a node. -/
def oddB (h : Hd) (n : Nat) : Bool := !nodeB h n
set_option maxRecDepth 10000 in
set_option maxHeartbeats 12800000 in
theorem odd_walk (h : Hd) (pe : Option Addr) (ne ce : Nat) (p : Option Addr) (l c : Nat) (w : World) (hk : 0 ≤ h.k ∧ h.k ≤ 255) (hl : l ≤ maxLen) (hne : h.e.length = ne) (he : EffIs w pe ne ce h.e) (hn : ne ≤ 100000) :
  Calls Tryz.prog 107 #[.agg #[.int .u8 h.k, .int .i64 h.r, .slice pe ne ce, .slice p l c]] w fun e w' => e = .returned (.bool (oddB h l)) ∧ Below w.heap.size w w' := by
 obtain ⟨k, v, e⟩ := h
 unfold maxLen at hl
 simp only at hk hne he
 have hmay := fun O : Obj => Effect.may_walk (c := ce) (he.below (box_new O)).rd hn
 have hlen : (ne = 0) = (e = []) := by rw [← hne, List.length_eq_zero_iff]
 have HMAY := Lib.hid hmay; have HLEN := Lib.hid hlen
 clear hmay hlen he hne
 have hcase : k = 1 ∨ k = 2 ∨ k = 3 ∨ k = 4 ∨ (k ≠ 1 ∧ k ≠ 2 ∧ k ≠ 3 ∧ k ≠ 4) := by omega
 rcases hcase with rfl | rfl | rfl | rfl | ⟨h1, h2, h3, h4⟩
 ·by_cases hv : v = 0
  ·subst hv
   by_cases hne : ne = 0
   ·have he := HLEN.out.mp hne
    subst hne he
    by_cases hl0 : l = 0
    ·subst hl0
     have hr : oddB ⟨1, 0, []⟩ 0 = false := by unfold oddB nodeB kidsN; rw [decide_eq_true (by simp [of_nil])]; rfl
     have HR := Lib.hid hr
     clear hr HMAY HLEN
     go_enter Tryz.func107, Tryz.ntmps107
     go_wp2
     go_ret
     exact ⟨ret_bool HR.out.symm, box_new _⟩
    ·have hr : oddB ⟨1, 0, []⟩ l = true := by unfold oddB nodeB kidsN; rw [decide_eq_false (by simp; omega)]; rfl
     have b0 : ((l : Int) != 0) = true := by rw [bne_iff_ne]; omega
     have HR := Lib.hid hr
     clear hr HMAY HLEN hl0
     go_enter Tryz.func107, Tryz.ntmps107
     go_wp2
     go_ret
     exact ⟨ret_bool HR.out.symm, box_new _⟩
   ·have hr : oddB ⟨1, 0, e⟩ l = true := by unfold oddB nodeB kidsN; rw [decide_eq_false (fun h => hne (HLEN.out.mpr (h.2.2.2.1 (by simp))))]; rfl
    have b0 : ((ne : Int) != 0) = true := by rw [bne_iff_ne]; omega
    have HR := Lib.hid hr
    clear hr HMAY HLEN hne
    go_enter Tryz.func107, Tryz.ntmps107
    go_wp2
    go_ret
    exact ⟨ret_bool HR.out.symm, box_new _⟩
  ·have hr : oddB ⟨1, v, e⟩ l = true := by unfold oddB nodeB kidsN; rw [decide_eq_false (fun h => by have h1 := h.2.1; have h2 := h.2.2.1 rfl; simp only at h1 h2; omega)]; rfl
   have b0 : (v != 0) = true := by rw [bne_iff_ne]; exact hv
   have HR := Lib.hid hr
   clear hr HMAY HLEN hv
   go_enter Tryz.func107, Tryz.ntmps107
   go_wp2
   go_ret
   exact ⟨ret_bool HR.out.symm, box_new _⟩
 ·by_cases hv : v < 0
  ·have hr : oddB ⟨2, v, e⟩ l = true := by unfold oddB nodeB kidsN; rw [decide_eq_false (fun h => by have h1 := h.2.1; simp only at h1; omega)]; rfl
   have b0 : decide (v < 0) = true := decide_eq_true hv
   have HR := Lib.hid hr
   clear hr HMAY HLEN
   go_enter Tryz.func107, Tryz.ntmps107
   go_wp2
   go_ret
   exact ⟨ret_bool HR.out.symm, box_new _⟩
  ·have b0 : decide (v < 0) = false := decide_eq_false hv
   by_cases hne : ne = 0
   ·have he := HLEN.out.mp hne
    subst hne he
    by_cases hl0 : l = 2
    ·subst hl0
     have hr : oddB ⟨2, v, []⟩ 2 = false := by unfold oddB nodeB kidsN; rw [decide_eq_true (by simp [of_nil]; omega)]; rfl
     have HR := Lib.hid hr
     clear hr HMAY HLEN
     go_enter Tryz.func107, Tryz.ntmps107
     go_wp2
     go_ret
     exact ⟨ret_bool HR.out.symm, box_new _⟩
    ·have hr : oddB ⟨2, v, []⟩ l = true := by unfold oddB nodeB kidsN; rw [decide_eq_false (fun h => by have h1 := h.1; simp at h1; omega)]; rfl
     have b1 : ((l : Int) != 2) = true := by rw [bne_iff_ne]; omega
     have HR := Lib.hid hr
     clear hr HMAY HLEN hl0
     go_enter Tryz.func107, Tryz.ntmps107
     go_wp2
     go_ret
     exact ⟨ret_bool HR.out.symm, box_new _⟩
   ·have hr : oddB ⟨2, v, e⟩ l = true := by unfold oddB nodeB kidsN; rw [decide_eq_false (fun h => hne (HLEN.out.mpr (h.2.2.2.1 (by simp))))]; rfl
    have b1 : ((ne : Int) != 0) = true := by rw [bne_iff_ne]; omega
    have HR := Lib.hid hr
    clear hr HMAY HLEN hne
    go_enter Tryz.func107, Tryz.ntmps107
    go_wp2
    go_ret
    exact ⟨ret_bool HR.out.symm, box_new _⟩
 ·by_cases hv : v < 0
  ·have hr : oddB ⟨3, v, e⟩ l = true := by unfold oddB nodeB kidsN; rw [decide_eq_false (fun h => by have h1 := h.2.1; simp only at h1; omega)]; rfl
   have b0 : decide (v < 0) = true := decide_eq_true hv
   have HR := Lib.hid hr
   clear hr HMAY HLEN
   go_enter Tryz.func107, Tryz.ntmps107
   go_wp2
   go_ret
   exact ⟨ret_bool HR.out.symm, box_new _⟩
  ·have b0 : decide (v < 0) = false := decide_eq_false hv
   by_cases hne : ne = 0
   ·have he := HLEN.out.mp hne
    subst hne he
    by_cases hl0 : l = 1
    ·subst hl0
     have hr : oddB ⟨3, v, []⟩ 1 = false := by unfold oddB nodeB kidsN; rw [decide_eq_true (by simp [of_nil]; omega)]; rfl
     have HR := Lib.hid hr
     clear hr HMAY HLEN
     go_enter Tryz.func107, Tryz.ntmps107
     go_wp2
     go_ret
     exact ⟨ret_bool HR.out.symm, box_new _⟩
    ·have hr : oddB ⟨3, v, []⟩ l = true := by unfold oddB nodeB kidsN; rw [decide_eq_false (fun h => by have h1 := h.1; simp at h1; omega)]; rfl
     have b1 : ((l : Int) != 1) = true := by rw [bne_iff_ne]; omega
     have HR := Lib.hid hr
     clear hr HMAY HLEN hl0
     go_enter Tryz.func107, Tryz.ntmps107
     go_wp2
     go_ret
     exact ⟨ret_bool HR.out.symm, box_new _⟩
   ·have hr : oddB ⟨3, v, e⟩ l = true := by unfold oddB nodeB kidsN; rw [decide_eq_false (fun h => hne (HLEN.out.mpr (h.2.2.2.1 (by simp))))]; rfl
    have b1 : ((ne : Int) != 0) = true := by rw [bne_iff_ne]; omega
    have HR := Lib.hid hr
    clear hr HMAY HLEN hne
    go_enter Tryz.func107, Tryz.ntmps107
    go_wp2
    go_ret
    exact ⟨ret_bool HR.out.symm, box_new _⟩
 ·by_cases hv : v < 0
  ·have hr : oddB ⟨4, v, e⟩ l = true := by unfold oddB nodeB kidsN; rw [decide_eq_false (fun h => by have h1 := h.2.1; simp only at h1; omega)]; rfl
   have b0 : decide (v < 0) = true := decide_eq_true hv
   have HR := Lib.hid hr
   clear hr HMAY HLEN
   go_enter Tryz.func107, Tryz.ntmps107
   go_wp2
   go_ret
   exact ⟨ret_bool HR.out.symm, box_new _⟩
  ·have b0 : decide (v < 0) = false := decide_eq_false hv
   cases hm : decide (e = ofA e)
   ·have hr : oddB ⟨4, v, e⟩ l = true := by unfold oddB nodeB kidsN; rw [decide_eq_false (fun h => (of_decide_eq_false hm) h.2.2.2.2)]; rfl
    have HR := Lib.hid hr; have HMM := Lib.hid hm
    clear hr HLEN hm
    go_enter Tryz.func107, Tryz.ntmps107
    go_wp2_with (fail)
    refine (HMAY.out _).mono ?_
    rintro e1 w1 ⟨rfl, hb1⟩
    obtain ⟨c0, c1, c2, c3⟩ := box4 (N := w.heap.size) rfl hb1
    have HB := Lib.hid (below_then (box_new _) hb1 (by simp))
    clear hb1
    rw [HMM.out]
    go_wp2
    go_ret
    exact ⟨ret_bool HR.out.symm, HB.out⟩
   ·by_cases hl2 : l = 2
    ·subst hl2
     have hr : oddB ⟨4, v, e⟩ 2 = false := by unfold oddB nodeB kidsN; rw [decide_eq_true (by have := of_decide_eq_true hm; simp; exact ⟨by omega, this⟩)]; rfl
     have HR := Lib.hid hr; have HMM := Lib.hid hm
     clear hr HLEN hm
     go_enter Tryz.func107, Tryz.ntmps107
     go_wp2_with (fail)
     refine (HMAY.out _).mono ?_
     rintro e1 w1 ⟨rfl, hb1⟩
     obtain ⟨c0, c1, c2, c3⟩ := box4 (N := w.heap.size) rfl hb1
     have HB := Lib.hid (below_then (box_new _) hb1 (by simp))
     clear hb1
     rw [HMM.out]
     go_wp2
     go_ret
     exact ⟨ret_bool HR.out.symm, HB.out⟩
    ·have hr : oddB ⟨4, v, e⟩ l = true := by unfold oddB nodeB kidsN; rw [decide_eq_false (fun h => by have h1 := h.1; simp at h1; omega)]; rfl
     have b1 : ((l : Int) != 2) = true := by rw [bne_iff_ne]; omega
     have HR := Lib.hid hr; have HMM := Lib.hid hm
     clear hr HLEN hm hl2
     go_enter Tryz.func107, Tryz.ntmps107
     go_wp2_with (fail)
     refine (HMAY.out _).mono ?_
     rintro e1 w1 ⟨rfl, hb1⟩
     obtain ⟨c0, c1, c2, c3⟩ := box4 (N := w.heap.size) rfl hb1
     have HB := Lib.hid (below_then (box_new _) hb1 (by simp))
     clear hb1
     rw [HMM.out]
     go_wp2
     go_ret
     exact ⟨ret_bool HR.out.symm, HB.out⟩
 ·have hr : oddB ⟨k, v, e⟩ l = true := by unfold oddB nodeB kidsN; rw [decide_eq_false (fun h => by have h5 := h.1; simp only [if_neg h1, if_neg h3, if_neg (show ¬ (k = 2 ∨ k = 4) from fun e => e.elim h2 h4)] at h5; omega)]; rfl
  have b1 : (k == 1) = false := by simpa using h1
  have b2 : (k == 2) = false := by simpa using h2
  have b3 : (k == 3) = false := by simpa using h3
  have b4 : (k == 4) = false := by simpa using h4
  have HR := Lib.hid hr
  clear hr HMAY HLEN h1 h2 h3 h4
  go_enter Tryz.func107, Tryz.ntmps107
  go_wp2
  go_ret
  exact ⟨ret_bool HR.out.symm, box_new _⟩

set_option maxRecDepth 10000 in
set_option maxHeartbeats 6400000 in
theorem someOdd_walk :
  ∀ (m : Nat) (ts : List RT) (p : Option Addr) (l d : Nat) (w : World), wts ts ≤ m → ts.length = l → l ≤ maxLen → Kids w p ts → allK (effB 100000) ts = true →
  Calls Tryz.prog 106 #[.func (.func 107) #[] #[], .slice p l d] w fun e w' => e = .returned (.bool (!mayK ts)) ∧ Below w.heap.size w w' := by
 intro m
 induction m using Nat.strongRecOn with
 | _ m ih =>
  intro ts p l d w hm hl hlm hk hi
  unfold maxLen at hlm
  have HM := Lib.hid hm; have HL := Lib.hid hl; have HK := Lib.hid hk; have HI := Lib.hid hi; have IH := Lib.hid ih
  clear hm hl hk hi ih
  go_enter Tryz.func106, Tryz.ntmps106
  go_wp2_with (fail)
  go_loopw [6, 9] (fun _ i wr => ∃ j : Nat, j ≤ l ∧ i = .int .i64 j ∧ Hid (mayK ts = mayK (ts.drop j)) ∧ Hid (Below w.heap.size w wr)) (fun _ i _ => l - (intOf i).toNat)
  case atStart => exact ⟨0, Nat.zero_le _, rfl, Lib.hid (by rw [List.drop_zero]), Lib.hid (Below.refl _ _)⟩
  case round =>
   obtain ⟨j, hj, rfl, HF, HS⟩ := hrel
   by_cases hlt : j < l
   ·have hjk : j < ts.length := by rw [HL.out]; exact hlt
    obtain ⟨b, o, q, c', qe, ce', rfl, hkid, c0, c1, c2, c3⟩ := (HK.out.stay HS.out).get j hjk
    have hwm : wts (tget ts j).ks < wts ts := by have h1 := wts_get hjk; have h2 := wt_ks (tget ts j); omega
    have hef := allK_get _ hjk HI.out
    rw [allT_eq, Bool.and_eq_true] at hef
    have hodd := fun O : Obj => odd_walk (tget ts j).h qe (tget ts j).h.e.length ce' q (tget ts j).ks.length c' (wr.alloc O) hkid.ok.k (Nat.le_trans hkid.cap.1 hkid.cap.2) rfl (hkid.eff.below (box_new O)) (eff_iff.1 hef.1).1
    have HJK := Lib.hid hjk; have HKID := Lib.hid hkid; have HWM := Lib.hid hwm; have HODD := Lib.hid hodd; have HEF := Lib.hid hef.2
    clear hjk hkid hwm hodd hef
    go_wp2_with (fail)
    refine (HODD.out _).mono ?_
    rintro e w1 ⟨rfl, hb1⟩
    obtain ⟨b0, b1, b2, b3⟩ := box4 (N := wr.heap.size) rfl hb1
    have hb1' := (box_new (w := wr) (.cells #[.int .u8 (tget ts j).h.k, .int .i64 (tget ts j).h.r, .slice qe (tget ts j).h.e.length ce', .slice q (tget ts j).ks.length c'] 28)).trans (hb1.mono (by simp))
    have HB1 := Lib.hid (below_then HS.out hb1' HS.out.size)
    have HW1 := Lib.hid hb1'
    clear hb1 hb1' c0 c1 c2 c3
    cases hb : nodeB (tget ts j).h (tget ts j).ks.length
    ·have hno : mayK (ts.drop j) = false := allK_no nodeB HJK.out hb
     have hod : oddB (tget ts j).h (tget ts j).ks.length = true := by unfold oddB; rw [hb]; rfl
     have HNO := Lib.hid hno; have HOD := Lib.hid hod
     clear hno hb hod
     rw [HOD.out]
     go_wp2
     go_ret
     exact ⟨ret_bool (by rw [HF.out, HNO.out]; rfl), HB1.out⟩
    ·have hod : oddB (tget ts j).h (tget ts j).ks.length = false := by unfold oddB; rw [hb]; rfl
     have HB := Lib.hid hb; have HOD := Lib.hid hod
     clear hb hod
     rw [HOD.out]
     go_wp2_with (fail)
     refine (IH.out (wts (tget ts j).ks) (by have := HWM.out; have := HM.out; omega) (tget ts j).ks q _ c' _ (Nat.le_refl _) rfl (Nat.le_trans HKID.out.cap.1 HKID.out.cap.2) (HKID.out.below HW1.out).kids HEF.out).mono ?_
     rintro e w2 ⟨rfl, hb2⟩
     have HB2 := Lib.hid (below_then HB1.out hb2 HB1.out.size)
     clear hb2 b0 b1 b2 b3
     cases hk : mayK (tget ts j).ks
     ·have hno : mayK (ts.drop j) = false := allK_kno nodeB HJK.out hk
      have HNO := Lib.hid hno
      clear hno hk
      go_wp2
      go_ret
      exact ⟨ret_bool (by rw [HF.out, HNO.out]; rfl), HB2.out⟩
     ·have hyes : mayK (ts.drop j) = mayK (ts.drop (j + 1)) := allK_yes nodeB HJK.out HB.out hk
      have HYES := Lib.hid hyes
      clear hyes hk
      go_wp2
      go_roundw
      case rel => exact ⟨j + 1, by omega, by go_num, Lib.hid (HF.out.trans HYES.out), HB2⟩
      case measure => simp [intOf]; omega
   ·obtain rfl : j = l := by omega
    have hr := HF.out
    rw [List.drop_eq_nil_of_le (by rw [HL.out]; exact Nat.le_refl _), mayK_nil] at hr
    have HR := Lib.hid hr
    clear hr
    go_wp2
    go_ret
    exact ⟨ret_bool (by rw [HR.out]; rfl), HS.out⟩

set_option maxHeartbeats 1600000 in
theorem may_walk (ts : List RT) (p : Option Addr) (l d : Nat) (w : World) (hl : ts.length = l) (hlm : l ≤ maxLen) (hk : Kids w p ts) (he : allK (effB 100000) ts = true) :
  Calls Tryz.prog 81 #[.slice p l d] w fun e w' => e = .returned (.bool (mayK ts)) ∧ Below w.heap.size w w' := by
 have ha := someOdd_walk (wts ts) ts p l d w (Nat.le_refl _) hl hlm hk he
 have HA := Lib.hid ha
 clear ha hl hlm hk he
 generalize mayK ts = X at *
 go_enter Tryz.func81, Tryz.ntmps81
 go_wp2_with (fail)
 refine (HA.out).mono ?_
 rintro e w1 ⟨rfl, hb1⟩
 have HB1 := Lib.hid hb1
 clear hb1
 cases X
 all_goals
  go_wp2_with (fail)
  go_ret
  exact ⟨rfl, HB1.out⟩
end Rt
end Go.Proofs.YtfncpcijfphngaaGreatDoor
namespace Go.Proofs.YtfncpcijfphngaaGreatDoor
open Go.RowKit
set_option linter.unusedVariables false
set_option linter.unusedSimpArgs false
namespace Rt
open Effect (At AtOk AtsAt Rd ofA ret_i64 ret_bool lt_of_block heap_alloc_new)

/-- Is a block a row of this type? -/
def IsT (T : TypeId) (O : Option Obj) : Prop := ∃ cs fz, O = some (.cells cs T fz)
/-- What is turned: block N, rows of type T from N on, and what is new. -/
structure Wro (T : TypeId) (N : Nat) (w w' : World) : Prop where
 os : w'.os = w.os
 tape : w'.tape = w.tape
 output : w'.output = w.output
 size : w.heap.size ≤ w'.heap.size
 low : ∀ k, k < w.heap.size → k < N → w'.heap[k]? = w.heap[k]?
 high : ∀ k, k < w.heap.size → k ≠ N → ¬ IsT T w.heap[k]? → w'.heap[k]? = w.heap[k]?
theorem Wro.refl (T : TypeId) (N : Nat) (w : World) : Wro T N w w := ⟨rfl, rfl, rfl, Nat.le_refl _, fun _ _ _ => rfl, fun _ _ _ _ => rfl⟩
theorem Wro.trans {T : TypeId} {N : Nat} {a b c : World} (h : Wro T N a b) (k : Wro T N b c) : Wro T N a c :=
 ⟨k.os.trans h.os, k.tape.trans h.tape, k.output.trans h.output, Nat.le_trans h.size k.size, fun i hi hn => (k.low i (Nat.lt_of_lt_of_le hi h.size) hn).trans (h.low i hi hn),
  fun i hi hn hs => (k.high i (Nat.lt_of_lt_of_le hi h.size) hn (by rw [h.high i hi hn hs]; exact hs)).trans (h.high i hi hn hs)⟩
theorem Wro.of_below {T : TypeId} {N : Nat} {w w' : World} (h : Below w.heap.size w w') : Wro T N w w' := ⟨h.os, h.tape, h.output, h.size, fun k hk _ => h.block k hk, fun k hk _ _ => h.block k hk⟩
theorem Wro.alloc {T : TypeId} {N : Nat} {w w' : World} (h : Wro T N w w') (O : Obj) : Wro T N w (w'.alloc O) := h.trans (Wro.of_below (box_new O))
theorem Wro.below {T : TypeId} {N : Nat} {w w' : World} (h : Wro T N w w') {a : World} {B : Nat} (hB : B ≤ N) (ha : Below B a w) (hN : B ≤ a.heap.size) : Below B a w' :=
 ⟨h.os.trans ha.os, h.tape.trans ha.tape, h.output.trans ha.output, Nat.le_trans ha.size h.size, fun k hk => (h.low k (Nat.lt_of_lt_of_le (Nat.lt_of_lt_of_le hk hN) ha.size) (by omega)).trans (ha.block k hk)⟩
theorem notT {T U : TypeId} {cs : Array Value} {fz : Nat × Nat} (h : U ≠ T) : ¬ IsT T (some (.cells cs U fz)) := by
 rintro ⟨cs', fz', e⟩
 injection e with e
 injection e with e1 e2 e3
 exact h e2
/-- A box that stays. -/
theorem Wro.keep {T U : TypeId} {N : Nat} {w w' : World} {b : Nat} {cs : Array Value} {fz : Nat × Nat} (h : Wro T N w w') (hb : w.heap[b]? = some (.cells cs U fz)) (hU : U ≠ T) (hN : b ≠ N) : w'.heap[b]? = some (.cells cs U fz) :=
 (h.high b (lt_of_block hb) hN (by rw [hb]; exact notT hU)).trans hb
theorem cells4 {W : World} {N : Nat} {a0 a1 a2 a3 : Value} {ty : TypeId} (h : W.heap[N]? = some (.cells #[a0, a1, a2, a3] ty (0, 0))) :
  (W.cell? ⟨N, 0, none⟩ = some a0 ∧ W.cell? ⟨N, 1, none⟩ = some a1 ∧ W.cell? ⟨N, 2, none⟩ = some a2 ∧ W.cell? ⟨N, 3, none⟩ = some a3) ∧ (W.frozen? ⟨N, 0, none⟩ = false ∧ W.frozen? ⟨N, 1, none⟩ = false ∧ W.frozen? ⟨N, 2, none⟩ = false ∧ W.frozen? ⟨N, 3, none⟩ = false) := by
 simp [World.cell?, World.frozen?, h]

/-! ### Size -/
theorem Wro.set {T : TypeId} {N : Nat} {a w : World} (h : Wro T N a w) (j : Nat) (u : Value) : Wro T N a (w.setCell ⟨N, j, none⟩ u) :=
 h.trans ⟨rfl, rfl, rfl, by simp [World.setCell], fun i hi hn => Below.heap_setCell _ _ _ _ (Nat.ne_of_lt hn), fun i hi hn _ => Below.heap_setCell _ _ _ _ (fun e => hn e)⟩

end Rt
end Go.Proofs.YtfncpcijfphngaaGreatDoor
namespace Go.Proofs.YtfncpcijfphngaaGreatDoor
open Go.RowKit
set_option linter.unusedVariables false
namespace Rt
open Effect (At AtOk AtsAt Rd ofA ret_i64 ret_bool lt_of_block heap_alloc_new own_slice)

def IsStrs (O : Option Obj) : Prop := ∃ cs fz, O = some (.cells cs 9 fz)
/-- What the writer's calls turn: its variable, in block N, rows of texts, and what is new. -/
structure Wrote (N : Nat) (w w' : World) : Prop where
 os : w'.os = w.os
 tape : w'.tape = w.tape
 output : w'.output = w.output
 size : w.heap.size ≤ w'.heap.size
 low : ∀ k, k < w.heap.size → k < N → w'.heap[k]? = w.heap[k]?
 high : ∀ k, k < w.heap.size → k ≠ N → ¬ IsStrs w.heap[k]? → w'.heap[k]? = w.heap[k]?
theorem Wrote.refl (N : Nat) (w : World) : Wrote N w w := ⟨rfl, rfl, rfl, Nat.le_refl _, fun _ _ _ => rfl, fun _ _ _ _ => rfl⟩
theorem Wrote.trans {N : Nat} {a b c : World} (h : Wrote N a b) (k : Wrote N b c) : Wrote N a c :=
 ⟨k.os.trans h.os, k.tape.trans h.tape, k.output.trans h.output, Nat.le_trans h.size k.size, fun i hi hn => (k.low i (Nat.lt_of_lt_of_le hi h.size) hn).trans (h.low i hi hn),
  fun i hi hn hs => (k.high i (Nat.lt_of_lt_of_le hi h.size) hn (by rw [h.high i hi hn hs]; exact hs)).trans (h.high i hi hn hs)⟩
theorem Wrote.of_below {N : Nat} {w w' : World} (h : Below w.heap.size w w') : Wrote N w w' := ⟨h.os, h.tape, h.output, h.size, fun k hk _ => h.block k hk, fun k hk _ _ => h.block k hk⟩
theorem Wrote.alloc {N : Nat} {w w' : World} (h : Wrote N w w') (O : Obj) : Wrote N w (w'.alloc O) := h.trans (Wrote.of_below ((Below.refl _ _).alloc (Nat.le_refl _) O))
theorem Wrote.below {N : Nat} {w w' : World} (h : Wrote N w w') {a : World} (ha : Below N a w) (hN : N ≤ a.heap.size) : Below N a w' :=
 ⟨h.os.trans ha.os, h.tape.trans ha.tape, h.output.trans ha.output, Nat.le_trans ha.size h.size, fun k hk => (h.low k (Nat.lt_of_lt_of_le (Nat.lt_of_lt_of_le hk hN) ha.size) hk).trans (ha.block k hk)⟩
/-- The writer's variable, in block N: the words that it has. -/
def WAt (N : Nat) (ss : List ByteArray) (w : World) : Prop :=
 ∃ v, w.heap[N]? = some (.cells #[v] 167 (0, 0)) ∧ w.ownsRow (N + 1) 9 1 v ss.length (ss.map Value.string)
theorem WAt.lt {N : Nat} {ss : List ByteArray} {w : World} (h : WAt N ss w) : N < w.heap.size := by obtain ⟨v, h, _⟩ := h; exact lt_of_block h
theorem WAt.alloc {N : Nat} {ss : List ByteArray} {w : World} (h : WAt N ss w) (O : Obj) : WAt N ss (w.alloc O) := by
 have hl := h.lt
 obtain ⟨v, h1, h2⟩ := h
 exact ⟨v, by rw [Below.heap_alloc _ _ _ hl]; exact h1, h2.alloc O⟩
theorem WAt.below {N : Nat} {ss : List ByteArray} {w w' : World} (h : WAt N ss w) (hb : Below w.heap.size w w') : WAt N ss w' := by
 have hl := h.lt
 obtain ⟨v, h1, h2⟩ := h
 refine ⟨v, by rw [hb.block _ hl]; exact h1, h2.kept (row := none) ⟨hb.os, hb.tape, hb.output, hb.size, fun k hk _ => hb.block k hk⟩ ?_⟩
 rcases hv : v.ownBlock with _ | g
 ·exact .inl rfl
 ·exact .inr (by simp)
theorem ownStrs {w : World} {B n : Nat} {v : Value} {xs : List Value} (h : w.ownsRow B 9 1 v n xs) {k : Nat} (hk : ¬ IsStrs w.heap[k]?) : some k ≠ v.ownBlock := by
 intro e
 rcases h.2 with ⟨rfl, _⟩ | ⟨g, cap, cur, rfl, _, hg, _⟩
 ·simp [Value.ownBlock] at e
 ·simp [Value.ownBlock] at e
  subst e
  exact hk ⟨_, _, hg⟩
theorem cells1_strs (ss : List ByteArray) : ∀ u ∈ ss.map Value.string, u.oneCell' = true := by
 intro u hu
 obtain ⟨x, _, rfl⟩ := List.mem_map.1 hu
 rfl
/-- 'append(words, src...)', words the writer's own, src any texts: none or not. -/
theorem append_strs {P : Program} {w : World} {ops : Array Oper} {rest : List Oper} {o : Oper} {a : Act} {Q : Exit → Act → World → Prop} (hgd : o.guard = none) (s x : Operand) (t : TypeId)
  (ho : o.op = .call { callee := .builtin .append, args := #[s, x], argTypes := #[t, t] })
  (base : Nat) (e : TypeId) (i : TypeInfo) (z : Value) (bytes : Nat) (ht : P.underlying t = some (.slice e)) (hi : P.info? e = some i) (hz : i.zero = some z)
  (hsize : i.size = 1) (hby : i.bytes = bytes) (hzs : z.cells.size = 1)
  (v : Value) (n : Nat) (xs : List Value) (hs : a.eval s = v) (hown : w.ownsRow base e 1 v n xs)
  (p : Option Addr) (m c : Nat) (ss : List ByteArray) (hx : a.eval x = .slice p m c) (hl : ss.length = m)
  (hsrc : (p = none ∧ m = 0 ∧ c = 0 ∧ ss = []) ∨ ∃ ad, p = some ad ∧ ∀ j u, (ss.map Value.string)[j]? = some u → w.cell? (ad.add j) = some u)
  (h63 : n + m ≤ maxLen) (hbytes : (n + m) * bytes ≤ 140737488355328) (hbase : base ≤ w.heap.size)
  (h : ∀ v' w', w'.ownsRow base e 1 v' (n + m) (xs ++ ss.map Value.string) → w.grownBy w' v.ownBlock → wpList P ops Q rest (a.put o.dst v') w') : wpList P ops Q (o :: rest) a w := by
 rcases hsrc with ⟨rfl, rfl, rfl, rfl⟩ | ⟨ad, rfl, hc⟩
 ·refine wpList_append_own_none hgd s x t ho base e i 1 ht hi v n xs hs hown hx (h v w ?_ (World.grownBy.refl w _))
  rw [Nat.add_zero, List.map_nil, List.append_nil]
  exact hown
 ·exact wpList_append_own w hgd s x t ho base e i z 1 bytes ht hi hz hsize hby hzs (by decide) v n xs hs hown ad m c (ss.map Value.string) hx (by rw [List.length_map, hl, Nat.mul_one]) hc (cells1_strs ss) h63 hbytes hbase (fun v' w' h1 h2 _ => h v' w' h1 h2)
/-- Texts that are handed in: none, or cells. -/
def Src (w : World) (p : Option Addr) (m c : Nat) (ts : List ByteArray) : Prop :=
 ts.length = m ∧ ((p = none ∧ m = 0 ∧ c = 0 ∧ ts = []) ∨ ∃ ad, p = some ad ∧ ∀ j u, (ts.map Value.string)[j]? = some u → w.cell? (ad.add j) = some u)
theorem Src.none (w : World) : Src w .none 0 0 [] := ⟨rfl, .inl ⟨rfl, rfl, rfl, rfl⟩⟩
theorem Src.new (w : World) (ts : List ByteArray) (ty : TypeId) (fz : Nat × Nat) : Src (w.alloc (.cells (ts.map Value.string).toArray ty fz)) (some ⟨w.heap.size, 0, .none⟩) ts.length ts.length ts := by
 refine ⟨rfl, .inr ⟨_, rfl, fun j u hu => ?_⟩⟩
 have e : (⟨w.heap.size, 0, Option.none⟩ : Addr).add j = ⟨w.heap.size, j, Option.none⟩ := by unfold Addr.add; split <;> simp_all
 rw [e]
 unfold World.cell?
 rw [heap_alloc_new]
 simpa using hu
theorem Src.below {w W : World} {p : Option Addr} {m c : Nat} {ts : List ByteArray} (h : Src w p m c ts) (hb : Below w.heap.size w W) : Src W p m c ts := by
 refine ⟨h.1, h.2.imp id ?_⟩
 rintro ⟨ad, hp, hc⟩
 refine ⟨ad, hp, fun j u hu => ?_⟩
 have := hc j u hu
 rw [hb.cell (World.block_lt_of_cell? w _ this)]
 exact this
theorem infoStr : (Tryz.prog.info? 9).map (fun i => (i.zero, i.size, i.bytes)) = some (some (.string ⟨#[]⟩), 1, 16) := by kernel_rfl
/-- How a call of the writer ends. -/
def WEnd (N : Nat) (ss : List ByteArray) (w : World) (e : Ending) (w' : World) : Prop := e = .returned (.tuple #[]) ∧ WAt N ss w' ∧ Wrote N w w'

set_option maxRecDepth 10000 in
set_option maxHeartbeats 1600000 in
theorem put_walk (N : Nat) (ss ts : List ByteArray) (p : Option Addr) (m c : Nat) (w : World) (hW : WAt N ss w) (hS : Src w p m c ts) (hm : ss.length + m ≤ 1000000) :
  Calls Tryz.prog 147 #[.pointer (some ⟨N, 0, none⟩), .slice p m c] w (WEnd N (ss ++ ts) w) := by
 obtain ⟨i0, hi, hz0, hz1, hz2⟩ := info_parts infoStr
 have hN := hW.lt
 obtain ⟨v, hB, hown⟩ := hW
 obtain ⟨va, vc, hv, _, _⟩ := own_slice hown
 subst hv
 have c0 : w.cell? ⟨N, 0, none⟩ = some (.slice va ss.length vc) := by simp [World.cell?, hB]
 have hfin : ∀ v' w', w'.ownsRow (N + 1) 9 1 v' (ss.length + m) (ss.map Value.string ++ ts.map Value.string) → w.grownBy w' (Value.slice va ss.length vc).ownBlock → w'.cell? ⟨N, 0, none⟩ = some (.slice va ss.length vc) ∧ w'.frozen? ⟨N, 0, none⟩ = false ∧ WEnd N (ss ++ ts) w (.returned (.tuple #[])) (w'.setCell ⟨N, 0, none⟩ v') := by
  intro v' w' h1 h2
  have hNv : some N ≠ (Value.slice va ss.length vc).ownBlock := by
   intro e
   have := (hown.lt N e.symm).1
   omega
  have hb' : w'.heap[N]? = some (.cells #[.slice va ss.length vc] 167 (0, 0)) := by rw [h2.block N hN hNv]; exact hB
  have hset : (w'.setCell ⟨N, 0, none⟩ v').heap[N]? = some (.cells #[v'] 167 (0, 0)) := by
   simp [World.setCell, Array.getElem?_modify, hb']
  have hoth : ∀ k, k ≠ N → (w'.setCell ⟨N, 0, none⟩ v').heap[k]? = w'.heap[k]? := fun k hk => Below.heap_setCell _ _ _ _ hk
  have hsz : (w'.setCell ⟨N, 0, none⟩ v').heap.size = w'.heap.size := by simp [World.setCell]
  refine ⟨by simp [World.cell?, hb'], by simp [World.frozen?, hb'], rfl, ⟨v', hset, ?_⟩, ⟨h2.os, h2.tape, h2.output, by rw [hsz]; exact h2.size, fun k hk hkN => ?_, fun k hk hkN hs => ?_⟩⟩
  ·rw [List.length_append, hS.1, List.map_append]
   refine ⟨h1.1, h1.2.imp id ?_⟩
   rintro ⟨g, cap, cur, rfl, hg, hgg, rest⟩
   exact ⟨g, cap, cur, rfl, hg, by rw [hoth g (by omega)]; exact hgg, rest⟩
  ·rw [hoth k (by omega)]
   exact h2.block k hk (fun e => by have := (hown.lt k e.symm).1; omega)
  ·rw [hoth k hkN]
   exact h2.block k hk (ownStrs hown hs)
 have HF := Lib.hid hfin; have HO := Lib.hid hown; have HS := Lib.hid hS; have HM := Lib.hid hm
 have HI := Lib.hid hi; have HZ0 := Lib.hid hz0; have HZ1 := Lib.hid hz1; have HZ2 := Lib.hid hz2; have HN := Lib.hid hN
 clear hfin hown hS hm hi hz0 hz1 hz2 hB hN
 go_enter Tryz.func147, Tryz.ntmps147
 go_wp2_with (at_builtin; refine append_strs rfl (.tmp 8) (.tmp 9) 39 rfl (N + 1) 9 i0 (.string ⟨#[]⟩) 16 Tryz.underlying39 HI.out HZ0.out HZ1.out HZ2.out rfl (.slice va ss.length vc) _ _ rfl HO.out p m c ts rfl HS.out.1 HS.out.2 (by have := HM.out; unfold maxLen; omega) (by have := HM.out; omega) HN.out ?_; intro v3 w3 hown3 hgrow3; obtain ⟨a3, c3, rfl, _, _⟩ := own_slice hown3; obtain ⟨f0, f1, f2⟩ := HF.out _ w3 hown3 hgrow3; have HW := Lib.hid f2; clear hown3 hgrow3 f2)
 go_end0
 exact HW.out
end Rt
end Go.Proofs.YtfncpcijfphngaaGreatDoor
namespace Go.Proofs.YtfncpcijfphngaaGreatDoor
open Go.RowKit
set_option linter.unusedVariables false
set_option linter.unusedSimpArgs false
namespace Rt
open Effect (At AtOk AtsAt Rd ofA ret_i64 ret_bool lt_of_block heap_alloc_new textE digs NumLaid)
open Types (wInt wOpen wShut wStar wRef wArrow)

/-- While a type is written: the words so far, what has been turned, and the type's own box. -/
def St (N : Nat) (w : World) (O : Obj) (ss : List ByteArray) (W : World) : Prop := WAt N ss W ∧ Wrote N w W ∧ W.heap[w.heap.size]? = some O
theorem St.start {N : Nat} {w : World} {ss : List ByteArray} (O : Obj) (h : WAt N ss w) : St N w O ss (w.alloc O) := ⟨h.alloc O, (Wrote.refl N w).alloc O, heap_alloc_new w O⟩
theorem St.alloc {N : Nat} {w W : World} {O : Obj} {ss : List ByteArray} (h : St N w O ss W) (O' : Obj) : St N w O ss (W.alloc O') := ⟨h.1.alloc O', h.2.1.alloc O', (Below.heap_alloc _ _ _ (lt_of_block h.2.2)).trans h.2.2⟩
theorem not_strs {cs : Array Value} {fz : Nat × Nat} : ¬ IsStrs (some (.cells cs 28 fz)) := by
 rintro ⟨cs', fz', h⟩
 simp at h
theorem St.next {N : Nat} {w W W' : World} {cs : Array Value} {ss ss' : List ByteArray} (h : St N w (.cells cs 28 (0, 0)) ss W) (hN : N < w.heap.size) (hA : WAt N ss' W') (hW : Wrote N W W') : St N w (.cells cs 28 (0, 0)) ss' W' :=
 ⟨hA, h.2.1.trans hW, (hW.high _ (lt_of_block h.2.2) (by omega) (by rw [h.2.2]; exact not_strs)).trans h.2.2⟩
theorem St.quiet {N : Nat} {w W W' : World} {O : Obj} {ss : List ByteArray} (h : St N w O ss W) (hb : Below W.heap.size W W') : St N w O ss W' :=
 ⟨h.1.below hb, h.2.1.trans (Wrote.of_below hb), (hb.block _ (lt_of_block h.2.2)).trans h.2.2⟩
theorem St.low {N : Nat} {w0 w W : World} {O : Obj} {ss : List ByteArray} (h : St N w O ss W) (hb : Below w0.heap.size w0 w) (hN : w0.heap.size ≤ N) : Below w0.heap.size w0 W :=
 ⟨h.2.1.os.trans hb.os, h.2.1.tape.trans hb.tape, h.2.1.output.trans hb.output, Nat.le_trans hb.size h.2.1.size, fun k hk => (h.2.1.low k (Nat.lt_of_lt_of_le hk hb.size) (by omega)).trans (hb.block k hk)⟩
theorem put_n {N : Nat} {w : World} {cs : Array Value} (hN : N < w.heap.size) (ts : List ByteArray) (W : World) (M m : Nat) (ss : List ByteArray) (hM : M = W.heap.size) (hm : ts.length = m) (h : St N w (.cells cs 28 (0, 0)) ss W) (hz : ss.length + m ≤ 1000000) :
  Calls Tryz.prog 147 #[.pointer (some ⟨N, 0, none⟩), .slice (some ⟨M, 0, none⟩) m m] (W.alloc (.cells (ts.map Value.string).toArray 9)) fun e W' => e = .returned (.tuple #[]) ∧ St N w (.cells cs 28 (0, 0)) (ss ++ ts) W' := by
 subst hM hm
 refine (put_walk N ss ts (some ⟨W.heap.size, 0, none⟩) ts.length ts.length (W.alloc (.cells (ts.map Value.string).toArray 9)) (h.1.alloc _) (Src.new W ts _ _) hz).mono ?_
 rintro e W' ⟨rfl, hA, hW⟩
 exact ⟨rfl, (h.alloc _).next hN hA hW⟩
/-- What is asked of typ. -/
def TypOf (w0 : World) (N m : Nat) : Prop := ∀ (t : RT) (h : Hd) (pe : Option Addr) (ne ce : Nat) (p : Option Addr) (l c : Nat) (ss : List ByteArray) (w : World), wt t ≤ m → mayT t = true → allT (effB 1000) t = true → RtIs w0 h pe ne ce p l c t → Below w0.heap.size w0 w → WAt N ss w → ss.length + 8 * wt t ≤ 1000000 →
 Calls Tryz.prog 132 #[.pointer (some ⟨N, 0, none⟩), .agg #[.int .u8 h.k, .int .i64 h.r, .slice pe ne ce, .slice p l c]] w (WEnd N (ss ++ wordsT t) w)
theorem st_end {N : Nat} {w W : World} {O : Obj} {ss : List ByteArray} (h : St N w O ss W) : WEnd N ss w (.returned (.tuple #[])) W := ⟨rfl, h.1, h.2.1⟩
/-- A kid's cells, in whatever world. -/
theorem kid_at {w0 : World} {h : Hd} {pe : Option Addr} {ne ce : Nat} {p : Option Addr} {l c : Nat} {t : RT} (hI : RtIs w0 h pe ne ce p l c t) (hl : 0 < l) : ∃ b o, p = some ⟨b, o, none⟩ ∧ ∀ i, i < l → ∃ qe de q d, RtIs w0 (tget t.ks i).h qe (tget t.ks i).h.e.length de q (tget t.ks i).ks.length d (tget t.ks i) ∧ ∀ W, Below w0.heap.size w0 W →
  W.cell? ⟨b, o + i * 4, none⟩ = some (.int .u8 (tget t.ks i).h.k) ∧ W.cell? ⟨b, o + i * 4 + 1, none⟩ = some (.int .i64 (tget t.ks i).h.r) ∧ W.cell? ⟨b, o + i * 4 + 2, none⟩ = some (.slice qe (tget t.ks i).h.e.length de) ∧ W.cell? ⟨b, o + i * 4 + 3, none⟩ = some (.slice q (tget t.ks i).ks.length d) := by
 have hlen := hI.len
 obtain ⟨b, o, q, d, qe, de, hp, -⟩ := hI.kids.get 0 (by omega)
 refine ⟨b, o, hp, fun i hi => ?_⟩
 obtain ⟨b', o', q', d', qe', de', hp', hT, c0, c1, c2, c3⟩ := hI.kids.get i (by omega)
 rw [hp] at hp'
 injection hp' with hp'
 injection hp' with e1 e2
 subst e1 e2
 refine ⟨qe', de', q', d', hT, fun W hb => ?_⟩
 have hR := fun (a : Addr) (v : Value) (hv : w0.cell? a = some v) => (hb.cell (World.block_lt_of_cell? w0 _ hv)).trans hv
 exact ⟨hR _ _ c0, hR _ _ c1, hR _ _ c2, hR _ _ c3⟩

set_option maxRecDepth 10000 in
set_option maxHeartbeats 6400000 in
theorem typ_1 (w0 : World) (N m : Nat) (hN0 : w0.heap.size ≤ N) (hnl : NumLaid w0) (hT : TypOf w0 N m) (t : RT) (v : Int) (e : List At) (pe : Option Addr) (ne ce : Nat) (p : Option Addr) (l c : Nat) (ss : List ByteArray) (w : World) (hm : wt t ≤ m + 1) (hok : mayT t = true) (hef : allT (effB 1000) t = true) (hI : RtIs w0 ⟨1, v, e⟩ pe ne ce p l c t) (hb : Below w0.heap.size w0 w) (hW : WAt N ss w) (hz : ss.length + 8 * wt t ≤ 1000000) :
  Calls Tryz.prog 132 #[.pointer (some ⟨N, 0, none⟩), .agg #[.int .u8 1, .int .i64 v, .slice pe ne ce, .slice p l c]] w (WEnd N (ss ++ wordsT t) w) := by
 have hNl := hW.lt
 have hlen := hI.len
 have hnode := (may_node hok).1
 rw [hI.head] at hnode
 have hcap := hI.cap
 have hef2 := hef
 rw [allT_eq, Bool.and_eq_true, hI.head] at hef2
 have hv0 := (may_node hok).2.1
 rw [hI.head] at hv0
 have hv1 := hI.ok.r
 simp only at hv0 hv1
 obtain rfl : l = 0 := by
  rcases hnode with ⟨_, h, _⟩ | ⟨h, _⟩ | ⟨h | h, _⟩ <;> first | omega | (simp at h)
 have es : ss ++ wordsT t = ss ++ [wInt] := by
  rw [wordsT_eq, hI.head]
  unfold comb
  simp []
 have hp0 := fun W M hM hSt => put_n (cs := #[.int .u8 1, .int .i64 v, .slice pe ne ce, .slice p 0 c]) hNl [wInt] W M 1 (ss) hM rfl hSt (by have := wt_pos t; simp; omega)
 have hin := inRegion_walk ⟨1, v, e⟩ pe ne ce p 0 c
 simp only at hin
 have hs := St.start (.cells #[.int .u8 1, .int .i64 v, .slice pe ne ce, .slice p 0 c] 28 (0, 0)) hW
 have ES := Lib.hid es; have HS := Lib.hid hs; have HIN := Lib.hid hin; have H0 := Lib.hid hp0
 have hcl : c ≤ 9223372036854775807 := hcap.2
 have hcq := hcap.1
 clear es hs hin hp0 hlen hnode hcap hT hI hb hW hok hm hz hef hef2 hnl hv0 hv1
 go_enter Tryz.func132, Tryz.ntmps132
 go_wp2_with (fail)
 refine (HIN.out _).mono ?_
 rintro en w0' ⟨rfl, hb0'⟩
 have HSA := Lib.hid (HS.out.quiet hb0')
 clear hb0'
 rw [show decide ((1 : Int) ≠ 1) = false from by decide]
 obtain ⟨⟨c0, c1, c2, c3⟩, -⟩ := cells4 HSA.out.2.2
 go_wp2_with (fail)
 refine (H0.out _ _ rfl HSA.out).mono ?_
 rintro en w1 ⟨rfl, h0⟩
 have HS1 := Lib.hid h0
 clear h0 c0 c1 c2 c3
 obtain ⟨⟨c0, c1, c2, c3⟩, -⟩ := cells4 HS1.out.2.2
 go_wp2_with (fail)
 go_end0
 rw [ES.out]
 exact st_end HS1.out

set_option maxRecDepth 10000 in
set_option maxHeartbeats 6400000 in
theorem typ_2 (w0 : World) (N m : Nat) (hN0 : w0.heap.size ≤ N) (hnl : NumLaid w0) (hT : TypOf w0 N m) (t : RT) (v : Int) (e : List At) (pe : Option Addr) (ne ce : Nat) (p : Option Addr) (l c : Nat) (ss : List ByteArray) (w : World) (hm : wt t ≤ m + 1) (hok : mayT t = true) (hef : allT (effB 1000) t = true) (hI : RtIs w0 ⟨2, v, e⟩ pe ne ce p l c t) (hb : Below w0.heap.size w0 w) (hW : WAt N ss w) (hz : ss.length + 8 * wt t ≤ 1000000) :
  Calls Tryz.prog 132 #[.pointer (some ⟨N, 0, none⟩), .agg #[.int .u8 2, .int .i64 v, .slice pe ne ce, .slice p l c]] w (WEnd N (ss ++ wordsT t) w) := by
 have hNl := hW.lt
 have hlen := hI.len
 have hnode := (may_node hok).1
 rw [hI.head] at hnode
 have hcap := hI.cap
 have hef2 := hef
 rw [allT_eq, Bool.and_eq_true, hI.head] at hef2
 have hv0 := (may_node hok).2.1
 rw [hI.head] at hv0
 have hv1 := hI.ok.r
 simp only at hv0 hv1
 obtain rfl : l = 2 := by
  simp at hnode; omega
 obtain ⟨b, o, rfl, hk⟩ := kid_at hI (by omega)
 obtain ⟨qe0, de0, q0, d0, hI0, hc0⟩ := hk 0 (by omega)
 have ok0 := may_kid hok (i := 0) (by omega)
 have ef0 := allK_get _ (j := 0) (by omega) hef2.2
 have wl0 := words_le ok0
 rw [show o + 0 * 4 = o from by omega] at hc0
 obtain ⟨qe1, de1, q1, d1, hI1, hc1⟩ := hk 1 (by omega)
 have ok1 := may_kid hok (i := 1) (by omega)
 have ef1 := allK_get _ (j := 1) (by omega) hef2.2
 have wl1 := words_le ok1
 rw [show o + 1 * 4 = o + 4 from by omega] at hc1
 have hww := wt2 (t := t) (by omega)
 have es : ss ++ wordsT t = ss ++ [wOpen] ++ wordsT (tget t.ks 0) ++ [wStar] ++ wordsT (tget t.ks 1) ++ [wAt, digs v, wShut] := by
  rw [wordsT_eq, hI.head]
  unfold comb
  simp [kw_get (show 0 < t.ks.length by omega), kw_get (show 1 < t.ks.length by omega)]
 have hp0 := fun W M hM hSt => put_n (cs := #[.int .u8 2, .int .i64 v, .slice pe ne ce, .slice (some ⟨b, o, none⟩) 2 c]) hNl [wOpen] W M 1 (ss) hM rfl hSt (by have := wt_pos t; simp; omega)
 have hp1 := fun W (hSt : St N w (.cells #[.int .u8 2, .int .i64 v, .slice pe ne ce, .slice (some ⟨b, o, none⟩) 2 c] 28 (0, 0)) (ss ++ [wOpen]) W) => hT (tget t.ks 0) _ qe0 _ de0 q0 _ d0 (ss ++ [wOpen]) W (by omega) ok0 ef0 hI0 (hSt.low hb hN0) hSt.1 (by simp; omega)
 have hp2 := fun W M hM hSt => put_n (cs := #[.int .u8 2, .int .i64 v, .slice pe ne ce, .slice (some ⟨b, o, none⟩) 2 c]) hNl [wStar] W M 1 (ss ++ [wOpen] ++ wordsT (tget t.ks 0)) hM rfl hSt (by have := wt_pos t; simp; omega)
 have hp3 := fun W (hSt : St N w (.cells #[.int .u8 2, .int .i64 v, .slice pe ne ce, .slice (some ⟨b, o, none⟩) 2 c] 28 (0, 0)) (ss ++ [wOpen] ++ wordsT (tget t.ks 0) ++ [wStar]) W) => hT (tget t.ks 1) _ qe1 _ de1 q1 _ d1 (ss ++ [wOpen] ++ wordsT (tget t.ks 0) ++ [wStar]) W (by omega) ok1 ef1 hI1 (hSt.low hb hN0) hSt.1 (by simp; omega)
 have hp4 := fun W M hM hSt => put_n (cs := #[.int .u8 2, .int .i64 v, .slice pe ne ce, .slice (some ⟨b, o, none⟩) 2 c]) hNl [wAt, digs v, wShut] W M 3 (ss ++ [wOpen] ++ wordsT (tget t.ks 0) ++ [wStar] ++ wordsT (tget t.ks 1)) hM rfl hSt (by have := wt_pos t; simp; omega)
 have hd4 := fun W (hSt : St N w (.cells #[.int .u8 2, .int .i64 v, .slice pe ne ce, .slice (some ⟨b, o, none⟩) 2 c] 28 (0, 0)) (ss ++ [wOpen] ++ wordsT (tget t.ks 0) ++ [wStar] ++ wordsT (tget t.ks 1)) W) => Effect.digitsOf_walk v hv1.1 hv1.2 W (hnl.below (hSt.low hb hN0))
 have hc0' := fun W ss' (hSt : St N w (.cells #[.int .u8 2, .int .i64 v, .slice pe ne ce, .slice (some ⟨b, o, none⟩) 2 c] 28 (0, 0)) ss' W) => hc0 W (hSt.low hb hN0)
 have hc1' := fun W ss' (hSt : St N w (.cells #[.int .u8 2, .int .i64 v, .slice pe ne ce, .slice (some ⟨b, o, none⟩) 2 c] 28 (0, 0)) ss' W) => hc1 W (hSt.low hb hN0)
 have hin := inRegion_walk ⟨2, v, e⟩ pe ne ce (some ⟨b, o, none⟩) 2 c
 simp only at hin
 have hs := St.start (.cells #[.int .u8 2, .int .i64 v, .slice pe ne ce, .slice (some ⟨b, o, none⟩) 2 c] 28 (0, 0)) hW
 have ES := Lib.hid es; have HS := Lib.hid hs; have HIN := Lib.hid hin; have H0 := Lib.hid hp0; have H1 := Lib.hid hp1; have H2 := Lib.hid hp2; have H3 := Lib.hid hp3; have H4 := Lib.hid hp4; have D4 := Lib.hid hd4; have HC0 := Lib.hid hc0'; have HC1 := Lib.hid hc1'
 have hcl : c ≤ 9223372036854775807 := hcap.2
 have hcq := hcap.1
 clear es hs hin hp0 hp1 hp2 hp3 hp4 hd4 hc0' hc0 hI0 ok0 ef0 wl0 hc1' hc1 hI1 ok1 ef1 wl1 hlen hnode hcap hT hI hb hW hok hm hz hef hef2 hnl hv0 hv1 hww hk
 generalize hdg : digs v = dv at *
 clear hdg
 go_enter Tryz.func132, Tryz.ntmps132
 go_wp2_with (fail)
 refine (HIN.out _).mono ?_
 rintro en w0' ⟨rfl, hb0'⟩
 have HSA := Lib.hid (HS.out.quiet hb0')
 clear hb0'
 rw [show decide ((2 : Int) ≠ 1) = true from by decide]
 obtain ⟨⟨c0, c1, c2, c3⟩, -⟩ := cells4 HSA.out.2.2
 go_wp2_with (fail)
 refine (H0.out _ _ rfl HSA.out).mono ?_
 rintro en w1 ⟨rfl, h0⟩
 have HS1 := Lib.hid h0
 clear h0 c0 c1 c2 c3
 obtain ⟨⟨c0, c1, c2, c3⟩, -⟩ := cells4 HS1.out.2.2
 obtain ⟨a0, a1, a2, a3⟩ := HC0.out _ _ HS1.out
 go_wp2_with (fail)
 refine (H1.out _ HS1.out).mono ?_
 rintro en w2 ⟨rfl, hA1, hW1⟩
 have HS2 := Lib.hid (HS1.out.next hNl hA1 hW1)
 clear hA1 hW1 a0 a1 a2 a3 c0 c1 c2 c3
 obtain ⟨⟨c0, c1, c2, c3⟩, -⟩ := cells4 HS2.out.2.2
 go_wp2_with (fail)
 refine (H2.out _ _ rfl HS2.out).mono ?_
 rintro en w3 ⟨rfl, h2⟩
 have HS3 := Lib.hid h2
 clear h2 c0 c1 c2 c3
 obtain ⟨⟨c0, c1, c2, c3⟩, -⟩ := cells4 HS3.out.2.2
 obtain ⟨a0, a1, a2, a3⟩ := HC1.out _ _ HS3.out
 go_wp2_with (fail)
 refine (H3.out _ HS3.out).mono ?_
 rintro en w4 ⟨rfl, hA3, hW3⟩
 have HS4 := Lib.hid (HS3.out.next hNl hA3 hW3)
 clear hA3 hW3 a0 a1 a2 a3 c0 c1 c2 c3
 obtain ⟨⟨c0, c1, c2, c3⟩, -⟩ := cells4 HS4.out.2.2
 go_wp2_with (fail)
 refine (D4.out _ HS4.out).mono ?_
 rintro en wd4 ⟨rfl, hbd4⟩
 have HD4 := Lib.hid (HS4.out.quiet hbd4)
 clear hbd4 c0 c1 c2 c3
 go_wp2_with (fail)
 refine (H4.out _ _ rfl HD4.out).mono ?_
 rintro en w5 ⟨rfl, h4⟩
 have HS5 := Lib.hid h4
 clear h4
 obtain ⟨⟨c0, c1, c2, c3⟩, -⟩ := cells4 HS5.out.2.2
 go_wp2_with (fail)
 go_end0
 rw [ES.out]
 exact st_end HS5.out

set_option maxRecDepth 10000 in
set_option maxHeartbeats 6400000 in
theorem typ_3 (w0 : World) (N m : Nat) (hN0 : w0.heap.size ≤ N) (hnl : NumLaid w0) (hT : TypOf w0 N m) (t : RT) (v : Int) (e : List At) (pe : Option Addr) (ne ce : Nat) (p : Option Addr) (l c : Nat) (ss : List ByteArray) (w : World) (hm : wt t ≤ m + 1) (hok : mayT t = true) (hef : allT (effB 1000) t = true) (hI : RtIs w0 ⟨3, v, e⟩ pe ne ce p l c t) (hb : Below w0.heap.size w0 w) (hW : WAt N ss w) (hz : ss.length + 8 * wt t ≤ 1000000) :
  Calls Tryz.prog 132 #[.pointer (some ⟨N, 0, none⟩), .agg #[.int .u8 3, .int .i64 v, .slice pe ne ce, .slice p l c]] w (WEnd N (ss ++ wordsT t) w) := by
 have hNl := hW.lt
 have hlen := hI.len
 have hnode := (may_node hok).1
 rw [hI.head] at hnode
 have hcap := hI.cap
 have hef2 := hef
 rw [allT_eq, Bool.and_eq_true, hI.head] at hef2
 have hv0 := (may_node hok).2.1
 rw [hI.head] at hv0
 have hv1 := hI.ok.r
 simp only at hv0 hv1
 obtain rfl : l = 1 := by
  simp at hnode; omega
 obtain ⟨b, o, rfl, hk⟩ := kid_at hI (by omega)
 obtain ⟨qe0, de0, q0, d0, hI0, hc0⟩ := hk 0 (by omega)
 have ok0 := may_kid hok (i := 0) (by omega)
 have ef0 := allK_get _ (j := 0) (by omega) hef2.2
 have wl0 := words_le ok0
 rw [show o + 0 * 4 = o from by omega] at hc0
 have hww := wt1 (t := t) (by omega)
 have es : ss ++ wordsT t = ss ++ [wOpen] ++ [wRef] ++ wordsT (tget t.ks 0) ++ [wAt, digs v, wShut] := by
  rw [wordsT_eq, hI.head]
  unfold comb
  simp [kw_get (show 0 < t.ks.length by omega)]
 have hp0 := fun W M hM hSt => put_n (cs := #[.int .u8 3, .int .i64 v, .slice pe ne ce, .slice (some ⟨b, o, none⟩) 1 c]) hNl [wOpen] W M 1 (ss) hM rfl hSt (by have := wt_pos t; simp; omega)
 have hp1 := fun W M hM hSt => put_n (cs := #[.int .u8 3, .int .i64 v, .slice pe ne ce, .slice (some ⟨b, o, none⟩) 1 c]) hNl [wRef] W M 1 (ss ++ [wOpen]) hM rfl hSt (by have := wt_pos t; simp; omega)
 have hp2 := fun W (hSt : St N w (.cells #[.int .u8 3, .int .i64 v, .slice pe ne ce, .slice (some ⟨b, o, none⟩) 1 c] 28 (0, 0)) (ss ++ [wOpen] ++ [wRef]) W) => hT (tget t.ks 0) _ qe0 _ de0 q0 _ d0 (ss ++ [wOpen] ++ [wRef]) W (by omega) ok0 ef0 hI0 (hSt.low hb hN0) hSt.1 (by simp; omega)
 have hp3 := fun W M hM hSt => put_n (cs := #[.int .u8 3, .int .i64 v, .slice pe ne ce, .slice (some ⟨b, o, none⟩) 1 c]) hNl [wAt, digs v, wShut] W M 3 (ss ++ [wOpen] ++ [wRef] ++ wordsT (tget t.ks 0)) hM rfl hSt (by have := wt_pos t; simp; omega)
 have hd3 := fun W (hSt : St N w (.cells #[.int .u8 3, .int .i64 v, .slice pe ne ce, .slice (some ⟨b, o, none⟩) 1 c] 28 (0, 0)) (ss ++ [wOpen] ++ [wRef] ++ wordsT (tget t.ks 0)) W) => Effect.digitsOf_walk v hv1.1 hv1.2 W (hnl.below (hSt.low hb hN0))
 have hc0' := fun W ss' (hSt : St N w (.cells #[.int .u8 3, .int .i64 v, .slice pe ne ce, .slice (some ⟨b, o, none⟩) 1 c] 28 (0, 0)) ss' W) => hc0 W (hSt.low hb hN0)
 have hin := inRegion_walk ⟨3, v, e⟩ pe ne ce (some ⟨b, o, none⟩) 1 c
 simp only at hin
 have hs := St.start (.cells #[.int .u8 3, .int .i64 v, .slice pe ne ce, .slice (some ⟨b, o, none⟩) 1 c] 28 (0, 0)) hW
 have ES := Lib.hid es; have HS := Lib.hid hs; have HIN := Lib.hid hin; have H0 := Lib.hid hp0; have H1 := Lib.hid hp1; have H2 := Lib.hid hp2; have H3 := Lib.hid hp3; have D3 := Lib.hid hd3; have HC0 := Lib.hid hc0'
 have hcl : c ≤ 9223372036854775807 := hcap.2
 have hcq := hcap.1
 clear es hs hin hp0 hp1 hp2 hp3 hd3 hc0' hc0 hI0 ok0 ef0 wl0 hlen hnode hcap hT hI hb hW hok hm hz hef hef2 hnl hv0 hv1 hww hk
 generalize hdg : digs v = dv at *
 clear hdg
 go_enter Tryz.func132, Tryz.ntmps132
 go_wp2_with (fail)
 refine (HIN.out _).mono ?_
 rintro en w0' ⟨rfl, hb0'⟩
 have HSA := Lib.hid (HS.out.quiet hb0')
 clear hb0'
 rw [show decide ((3 : Int) ≠ 1) = true from by decide]
 obtain ⟨⟨c0, c1, c2, c3⟩, -⟩ := cells4 HSA.out.2.2
 go_wp2_with (fail)
 refine (H0.out _ _ rfl HSA.out).mono ?_
 rintro en w1 ⟨rfl, h0⟩
 have HS1 := Lib.hid h0
 clear h0 c0 c1 c2 c3
 obtain ⟨⟨c0, c1, c2, c3⟩, -⟩ := cells4 HS1.out.2.2
 go_wp2_with (fail)
 refine (H1.out _ _ rfl HS1.out).mono ?_
 rintro en w2 ⟨rfl, h1⟩
 have HS2 := Lib.hid h1
 clear h1 c0 c1 c2 c3
 obtain ⟨⟨c0, c1, c2, c3⟩, -⟩ := cells4 HS2.out.2.2
 obtain ⟨a0, a1, a2, a3⟩ := HC0.out _ _ HS2.out
 go_wp2_with (fail)
 refine (H2.out _ HS2.out).mono ?_
 rintro en w3 ⟨rfl, hA2, hW2⟩
 have HS3 := Lib.hid (HS2.out.next hNl hA2 hW2)
 clear hA2 hW2 a0 a1 a2 a3 c0 c1 c2 c3
 obtain ⟨⟨c0, c1, c2, c3⟩, -⟩ := cells4 HS3.out.2.2
 go_wp2_with (fail)
 refine (D3.out _ HS3.out).mono ?_
 rintro en wd3 ⟨rfl, hbd3⟩
 have HD3 := Lib.hid (HS3.out.quiet hbd3)
 clear hbd3 c0 c1 c2 c3
 go_wp2_with (fail)
 refine (H3.out _ _ rfl HD3.out).mono ?_
 rintro en w4 ⟨rfl, h3⟩
 have HS4 := Lib.hid h3
 clear h3
 obtain ⟨⟨c0, c1, c2, c3⟩, -⟩ := cells4 HS4.out.2.2
 go_wp2_with (fail)
 go_end0
 rw [ES.out]
 exact st_end HS4.out

set_option maxRecDepth 10000 in
set_option maxHeartbeats 6400000 in
theorem typ_4 (w0 : World) (N m : Nat) (hN0 : w0.heap.size ≤ N) (hnl : NumLaid w0) (hT : TypOf w0 N m) (t : RT) (v : Int) (e : List At) (pe : Option Addr) (ne ce : Nat) (p : Option Addr) (l c : Nat) (ss : List ByteArray) (w : World) (hm : wt t ≤ m + 1) (hok : mayT t = true) (hef : allT (effB 1000) t = true) (hI : RtIs w0 ⟨4, v, e⟩ pe ne ce p l c t) (hb : Below w0.heap.size w0 w) (hW : WAt N ss w) (hz : ss.length + 8 * wt t ≤ 1000000) :
  Calls Tryz.prog 132 #[.pointer (some ⟨N, 0, none⟩), .agg #[.int .u8 4, .int .i64 v, .slice pe ne ce, .slice p l c]] w (WEnd N (ss ++ wordsT t) w) := by
 have hNl := hW.lt
 have hlen := hI.len
 have hnode := (may_node hok).1
 rw [hI.head] at hnode
 have hcap := hI.cap
 have hef2 := hef
 rw [allT_eq, Bool.and_eq_true, hI.head] at hef2
 have hv0 := (may_node hok).2.1
 rw [hI.head] at hv0
 have hv1 := hI.ok.r
 simp only at hv0 hv1
 obtain rfl : l = 2 := by
  simp at hnode; omega
 obtain ⟨b, o, rfl, hk⟩ := kid_at hI (by omega)
 obtain ⟨qe0, de0, q0, d0, hI0, hc0⟩ := hk 0 (by omega)
 have ok0 := may_kid hok (i := 0) (by omega)
 have ef0 := allK_get _ (j := 0) (by omega) hef2.2
 have wl0 := words_le ok0
 rw [show o + 0 * 4 = o from by omega] at hc0
 obtain ⟨qe1, de1, q1, d1, hI1, hc1⟩ := hk 1 (by omega)
 have ok1 := may_kid hok (i := 1) (by omega)
 have ef1 := allK_get _ (j := 1) (by omega) hef2.2
 have wl1 := words_le ok1
 rw [show o + 1 * 4 = o + 4 from by omega] at hc1
 have hww := wt2 (t := t) (by omega)
 have es : ss ++ wordsT t = ss ++ [wOpen] ++ wordsT (tget t.ks 0) ++ [wArrow] ++ wordsT (tget t.ks 1) ++ [wBang, textE (ofA e)] ++ [wAt, digs v, wShut] := by
  rw [wordsT_eq, hI.head]
  unfold comb
  simp [kw_get (show 0 < t.ks.length by omega), kw_get (show 1 < t.ks.length by omega)]
 have hp0 := fun W M hM hSt => put_n (cs := #[.int .u8 4, .int .i64 v, .slice pe ne ce, .slice (some ⟨b, o, none⟩) 2 c]) hNl [wOpen] W M 1 (ss) hM rfl hSt (by have := wt_pos t; simp; omega)
 have hp1 := fun W (hSt : St N w (.cells #[.int .u8 4, .int .i64 v, .slice pe ne ce, .slice (some ⟨b, o, none⟩) 2 c] 28 (0, 0)) (ss ++ [wOpen]) W) => hT (tget t.ks 0) _ qe0 _ de0 q0 _ d0 (ss ++ [wOpen]) W (by omega) ok0 ef0 hI0 (hSt.low hb hN0) hSt.1 (by simp; omega)
 have hp2 := fun W M hM hSt => put_n (cs := #[.int .u8 4, .int .i64 v, .slice pe ne ce, .slice (some ⟨b, o, none⟩) 2 c]) hNl [wArrow] W M 1 (ss ++ [wOpen] ++ wordsT (tget t.ks 0)) hM rfl hSt (by have := wt_pos t; simp; omega)
 have hp3 := fun W (hSt : St N w (.cells #[.int .u8 4, .int .i64 v, .slice pe ne ce, .slice (some ⟨b, o, none⟩) 2 c] 28 (0, 0)) (ss ++ [wOpen] ++ wordsT (tget t.ks 0) ++ [wArrow]) W) => hT (tget t.ks 1) _ qe1 _ de1 q1 _ d1 (ss ++ [wOpen] ++ wordsT (tget t.ks 0) ++ [wArrow]) W (by omega) ok1 ef1 hI1 (hSt.low hb hN0) hSt.1 (by simp; omega)
 have hp4 := fun W M hM hSt => put_n (cs := #[.int .u8 4, .int .i64 v, .slice pe ne ce, .slice (some ⟨b, o, none⟩) 2 c]) hNl [wBang, textE (ofA e)] W M 2 (ss ++ [wOpen] ++ wordsT (tget t.ks 0) ++ [wArrow] ++ wordsT (tget t.ks 1)) hM rfl hSt (by have := wt_pos t; simp; omega)
 have hd4 := fun W (hSt : St N w (.cells #[.int .u8 4, .int .i64 v, .slice pe ne ce, .slice (some ⟨b, o, none⟩) 2 c] 28 (0, 0)) (ss ++ [wOpen] ++ wordsT (tget t.ks 0) ++ [wArrow] ++ wordsT (tget t.ks 1)) W) => Effect.text_walk (c := ce) (hI.eff.below (hSt.low hb hN0)).rd (by rw [← hI.elen]; exact (eff_iff.1 hef2.1).1) (sh_eff hI.ok.e (eff_iff.1 hef2.1).2 (Nat.le_refl _)) (hnl.below (hSt.low hb hN0))
 have hp5 := fun W M hM hSt => put_n (cs := #[.int .u8 4, .int .i64 v, .slice pe ne ce, .slice (some ⟨b, o, none⟩) 2 c]) hNl [wAt, digs v, wShut] W M 3 (ss ++ [wOpen] ++ wordsT (tget t.ks 0) ++ [wArrow] ++ wordsT (tget t.ks 1) ++ [wBang, textE (ofA e)]) hM rfl hSt (by have := wt_pos t; simp; omega)
 have hd5 := fun W (hSt : St N w (.cells #[.int .u8 4, .int .i64 v, .slice pe ne ce, .slice (some ⟨b, o, none⟩) 2 c] 28 (0, 0)) (ss ++ [wOpen] ++ wordsT (tget t.ks 0) ++ [wArrow] ++ wordsT (tget t.ks 1) ++ [wBang, textE (ofA e)]) W) => Effect.digitsOf_walk v hv1.1 hv1.2 W (hnl.below (hSt.low hb hN0))
 have hc0' := fun W ss' (hSt : St N w (.cells #[.int .u8 4, .int .i64 v, .slice pe ne ce, .slice (some ⟨b, o, none⟩) 2 c] 28 (0, 0)) ss' W) => hc0 W (hSt.low hb hN0)
 have hc1' := fun W ss' (hSt : St N w (.cells #[.int .u8 4, .int .i64 v, .slice pe ne ce, .slice (some ⟨b, o, none⟩) 2 c] 28 (0, 0)) ss' W) => hc1 W (hSt.low hb hN0)
 have hin := inRegion_walk ⟨4, v, e⟩ pe ne ce (some ⟨b, o, none⟩) 2 c
 simp only at hin
 have hs := St.start (.cells #[.int .u8 4, .int .i64 v, .slice pe ne ce, .slice (some ⟨b, o, none⟩) 2 c] 28 (0, 0)) hW
 have ES := Lib.hid es; have HS := Lib.hid hs; have HIN := Lib.hid hin; have H0 := Lib.hid hp0; have H1 := Lib.hid hp1; have H2 := Lib.hid hp2; have H3 := Lib.hid hp3; have H4 := Lib.hid hp4; have D4 := Lib.hid hd4; have H5 := Lib.hid hp5; have D5 := Lib.hid hd5; have HC0 := Lib.hid hc0'; have HC1 := Lib.hid hc1'
 have hcl : c ≤ 9223372036854775807 := hcap.2
 have hcq := hcap.1
 clear es hs hin hp0 hp1 hp2 hp3 hp4 hd4 hp5 hd5 hc0' hc0 hI0 ok0 ef0 wl0 hc1' hc1 hI1 ok1 ef1 wl1 hlen hnode hcap hT hI hb hW hok hm hz hef hef2 hnl hv0 hv1 hww hk
 generalize hdg : digs v = dv at *
 generalize hte : textE (ofA e) = te at *
 clear hdg hte
 go_enter Tryz.func132, Tryz.ntmps132
 go_wp2_with (fail)
 refine (HIN.out _).mono ?_
 rintro en w0' ⟨rfl, hb0'⟩
 have HSA := Lib.hid (HS.out.quiet hb0')
 clear hb0'
 rw [show decide ((4 : Int) ≠ 1) = true from by decide]
 obtain ⟨⟨c0, c1, c2, c3⟩, -⟩ := cells4 HSA.out.2.2
 go_wp2_with (fail)
 refine (H0.out _ _ rfl HSA.out).mono ?_
 rintro en w1 ⟨rfl, h0⟩
 have HS1 := Lib.hid h0
 clear h0 c0 c1 c2 c3
 obtain ⟨⟨c0, c1, c2, c3⟩, -⟩ := cells4 HS1.out.2.2
 obtain ⟨a0, a1, a2, a3⟩ := HC0.out _ _ HS1.out
 go_wp2_with (fail)
 refine (H1.out _ HS1.out).mono ?_
 rintro en w2 ⟨rfl, hA1, hW1⟩
 have HS2 := Lib.hid (HS1.out.next hNl hA1 hW1)
 clear hA1 hW1 a0 a1 a2 a3 c0 c1 c2 c3
 obtain ⟨⟨c0, c1, c2, c3⟩, -⟩ := cells4 HS2.out.2.2
 go_wp2_with (fail)
 refine (H2.out _ _ rfl HS2.out).mono ?_
 rintro en w3 ⟨rfl, h2⟩
 have HS3 := Lib.hid h2
 clear h2 c0 c1 c2 c3
 obtain ⟨⟨c0, c1, c2, c3⟩, -⟩ := cells4 HS3.out.2.2
 obtain ⟨a0, a1, a2, a3⟩ := HC1.out _ _ HS3.out
 go_wp2_with (fail)
 refine (H3.out _ HS3.out).mono ?_
 rintro en w4 ⟨rfl, hA3, hW3⟩
 have HS4 := Lib.hid (HS3.out.next hNl hA3 hW3)
 clear hA3 hW3 a0 a1 a2 a3 c0 c1 c2 c3
 obtain ⟨⟨c0, c1, c2, c3⟩, -⟩ := cells4 HS4.out.2.2
 go_wp2_with (fail)
 refine (D4.out _ HS4.out).mono ?_
 rintro en wd4 ⟨rfl, hbd4⟩
 have HD4 := Lib.hid (HS4.out.quiet hbd4)
 clear hbd4 c0 c1 c2 c3
 go_wp2_with (fail)
 refine (H4.out _ _ rfl HD4.out).mono ?_
 rintro en w5 ⟨rfl, h4⟩
 have HS5 := Lib.hid h4
 clear h4
 obtain ⟨⟨c0, c1, c2, c3⟩, -⟩ := cells4 HS5.out.2.2
 go_wp2_with (fail)
 refine (D5.out _ HS5.out).mono ?_
 rintro en wd5 ⟨rfl, hbd5⟩
 have HD5 := Lib.hid (HS5.out.quiet hbd5)
 clear hbd5 c0 c1 c2 c3
 go_wp2_with (fail)
 refine (H5.out _ _ rfl HD5.out).mono ?_
 rintro en w6 ⟨rfl, h5⟩
 have HS6 := Lib.hid h5
 clear h5
 obtain ⟨⟨c0, c1, c2, c3⟩, -⟩ := cells4 HS6.out.2.2
 go_wp2_with (fail)
 go_end0
 rw [ES.out]
 exact st_end HS6.out

/-- THE WRITER'S TYPE. -/
theorem typ_all (w0 : World) (N : Nat) (hN : w0.heap.size ≤ N) (hnl : NumLaid w0) : ∀ m, TypOf w0 N m := by
 intro m
 induction m with
 | zero =>
  intro t h pe ne ce p l c ss w hm
  have := wt_pos t
  omega
 | succ m ih =>
  intro t h pe ne ce p l c ss w hm hok hef hI hb hW hz
  have hk := (may_node hok).1
  rw [hI.head] at hk
  obtain ⟨k, v, e⟩ := h
  simp only at hk
  have hh : k = 1 ∨ k = 2 ∨ k = 3 ∨ k = 4 := by omega
  rcases hh with rfl | rfl | rfl | rfl
  ·exact typ_1 w0 N m hN hnl ih t v e pe ne ce p l c ss w hm hok hef hI hb hW hz
  ·exact typ_2 w0 N m hN hnl ih t v e pe ne ce p l c ss w hm hok hef hI hb hW hz
  ·exact typ_3 w0 N m hN hnl ih t v e pe ne ce p l c ss w hm hok hef hI hb hW hz
  ·exact typ_4 w0 N m hN hnl ih t v e pe ne ce p l c ss w hm hok hef hI hb hW hz
end Rt
end Go.Proofs.YtfncpcijfphngaaGreatDoor
