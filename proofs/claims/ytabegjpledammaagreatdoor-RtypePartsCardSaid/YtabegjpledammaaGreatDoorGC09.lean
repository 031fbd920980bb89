/-The program's odd and inRegion, and its way through all nodes with odd: May. The program's way through all nodes with a function that is handed each: each, and some with each$1. -/
import Derived.Test.YtabegjpledammaaGreatDoorGC08
import Derived.Test.YtabegjpledammaaGreatDoorGC03
import Derived.IntWalk
import Derived.Laws.EntriesVeiled
namespace Go.Proofs.YtabegjpledammaaGreatDoor
open Go.RowKit
set_option linter.unusedVariables false
set_option linter.unusedSimpArgs false
namespace Rt
open Effect (At AtOk AtsAt Rd ofA ret_i64 ret_bool)

theorem inRegion_walk (h : Hd) (pe : Option Addr) (ne ce : Nat) (p : Option Addr) (l c : Nat) (w : World) :
    Calls Tryz.prog 41 #[.agg #[.int .u8 h.k, .int .i64 h.r, .slice pe ne ce, .slice p l c]] w fun e w' => e = .returned (.bool (decide (h.k ≠ 1))) ∧ Below w.heap.size w w' := by
  obtain ⟨k, v, e⟩ := h
  have hr : decide (k ≠ 1) = (k != 1) := by simp [bne, Bool.beq_eq_decide_eq]
  have HR := Lib.hid hr
  clear hr
  go_enter Tryz.func41, Tryz.ntmps41
  go_wp2
  go_ret
  exact ⟨ret_bool HR.out.symm, box_new _⟩

theorem of_nil : ofA [] = [] := rfl
/-- What odd tells of a node. -/
def oddB (h : Hd) (n : Nat) : Bool := !nodeB h n
set_option maxRecDepth 10000 in
set_option maxHeartbeats 12800000 in
theorem odd_walk (h : Hd) (pe : Option Addr) (ne ce : Nat) (p : Option Addr) (l c : Nat) (w : World) (hk : 0 ≤ h.k ∧ h.k ≤ 255) (hl : l ≤ maxLen) (hne : h.e.length = ne) (he : EffIs w pe ne ce h.e) (hn : ne ≤ 100000) :
    Calls Tryz.prog 32 #[.agg #[.int .u8 h.k, .int .i64 h.r, .slice pe ne ce, .slice p l c]] w fun e w' => e = .returned (.bool (oddB h l)) ∧ Below w.heap.size w w' := by
  obtain ⟨k, v, e⟩ := h
  unfold maxLen at hl
  simp only at hk hne he
  have hmay := fun O : Obj => Effect.may_walk (c := ce) (he.below (box_new O)).rd hn
  have hlen : (ne = 0) = (e = []) := by rw [← hne, List.length_eq_zero_iff]
  have HMAY := Lib.hid hmay; have HLEN := Lib.hid hlen
  clear hmay hlen he hne
  have hcase : k = 1 ∨ k = 2 ∨ k = 3 ∨ k = 4 ∨ (k ≠ 1 ∧ k ≠ 2 ∧ k ≠ 3 ∧ k ≠ 4) := by omega
  rcases hcase with rfl | rfl | rfl | rfl | ⟨h1, h2, h3, h4⟩
  · by_cases hv : v = 0
    · subst hv
      by_cases hne : ne = 0
      · have he := HLEN.out.mp hne
        subst hne he
        by_cases hl0 : l = 0
        · subst hl0
          have hr : oddB ⟨1, 0, []⟩ 0 = false := by unfold oddB nodeB kidsN; rw [decide_eq_true (by simp [of_nil])]; rfl
          have HR := Lib.hid hr
          clear hr HMAY HLEN
          go_enter Tryz.func32, Tryz.ntmps32
          go_wp2
          go_ret
          exact ⟨ret_bool HR.out.symm, box_new _⟩
        · have hr : oddB ⟨1, 0, []⟩ l = true := by unfold oddB nodeB kidsN; rw [decide_eq_false (by simp; omega)]; rfl
          have b0 : ((l : Int) != 0) = true := by rw [bne_iff_ne]; omega
          have HR := Lib.hid hr
          clear hr HMAY HLEN hl0
          go_enter Tryz.func32, Tryz.ntmps32
          go_wp2
          go_ret
          exact ⟨ret_bool HR.out.symm, box_new _⟩
      · have hr : oddB ⟨1, 0, e⟩ l = true := by unfold oddB nodeB kidsN; rw [decide_eq_false (fun h => hne (HLEN.out.mpr (h.2.2.2.1 (by simp))))]; rfl
        have b0 : ((ne : Int) != 0) = true := by rw [bne_iff_ne]; omega
        have HR := Lib.hid hr
        clear hr HMAY HLEN hne
        go_enter Tryz.func32, Tryz.ntmps32
        go_wp2
        go_ret
        exact ⟨ret_bool HR.out.symm, box_new _⟩
    · have hr : oddB ⟨1, v, e⟩ l = true := by unfold oddB nodeB kidsN; rw [decide_eq_false (fun h => by have h1 := h.2.1; have h2 := h.2.2.1 rfl; simp only at h1 h2; omega)]; rfl
      have b0 : (v != 0) = true := by rw [bne_iff_ne]; exact hv
      have HR := Lib.hid hr
      clear hr HMAY HLEN hv
      go_enter Tryz.func32, Tryz.ntmps32
      go_wp2
      go_ret
      exact ⟨ret_bool HR.out.symm, box_new _⟩
  · by_cases hv : v < 0
    · have hr : oddB ⟨2, v, e⟩ l = true := by unfold oddB nodeB kidsN; rw [decide_eq_false (fun h => by have h1 := h.2.1; simp only at h1; omega)]; rfl
      have b0 : decide (v < 0) = true := decide_eq_true hv
      have HR := Lib.hid hr
      clear hr HMAY HLEN
      go_enter Tryz.func32, Tryz.ntmps32
      go_wp2
      go_ret
      exact ⟨ret_bool HR.out.symm, box_new _⟩
    · have b0 : decide (v < 0) = false := decide_eq_false hv
      by_cases hne : ne = 0
      · have he := HLEN.out.mp hne
        subst hne he
        by_cases hl0 : l = 2
        · subst hl0
          have hr : oddB ⟨2, v, []⟩ 2 = false := by unfold oddB nodeB kidsN; rw [decide_eq_true (by simp [of_nil]; omega)]; rfl
          have HR := Lib.hid hr
          clear hr HMAY HLEN
          go_enter Tryz.func32, Tryz.ntmps32
          go_wp2
          go_ret
          exact ⟨ret_bool HR.out.symm, box_new _⟩
        · have hr : oddB ⟨2, v, []⟩ l = true := by unfold oddB nodeB kidsN; rw [decide_eq_false (fun h => by have h1 := h.1; simp at h1; omega)]; rfl
          have b1 : ((l : Int) != 2) = true := by rw [bne_iff_ne]; omega
          have HR := Lib.hid hr
          clear hr HMAY HLEN hl0
          go_enter Tryz.func32, Tryz.ntmps32
          go_wp2
          go_ret
          exact ⟨ret_bool HR.out.symm, box_new _⟩
      · have hr : oddB ⟨2, v, e⟩ l = true := by unfold oddB nodeB kidsN; rw [decide_eq_false (fun h => hne (HLEN.out.mpr (h.2.2.2.1 (by simp))))]; rfl
        have b1 : ((ne : Int) != 0) = true := by rw [bne_iff_ne]; omega
        have HR := Lib.hid hr
        clear hr HMAY HLEN hne
        go_enter Tryz.func32, Tryz.ntmps32
        go_wp2
        go_ret
        exact ⟨ret_bool HR.out.symm, box_new _⟩
  · by_cases hv : v < 0
    · have hr : oddB ⟨3, v, e⟩ l = true := by unfold oddB nodeB kidsN; rw [decide_eq_false (fun h => by have h1 := h.2.1; simp only at h1; omega)]; rfl
      have b0 : decide (v < 0) = true := decide_eq_true hv
      have HR := Lib.hid hr
      clear hr HMAY HLEN
      go_enter Tryz.func32, Tryz.ntmps32
      go_wp2
      go_ret
      exact ⟨ret_bool HR.out.symm, box_new _⟩
    · have b0 : decide (v < 0) = false := decide_eq_false hv
      by_cases hne : ne = 0
      · have he := HLEN.out.mp hne
        subst hne he
        by_cases hl0 : l = 1
        · subst hl0
          have hr : oddB ⟨3, v, []⟩ 1 = false := by unfold oddB nodeB kidsN; rw [decide_eq_true (by simp [of_nil]; omega)]; rfl
          have HR := Lib.hid hr
          clear hr HMAY HLEN
          go_enter Tryz.func32, Tryz.ntmps32
          go_wp2
          go_ret
          exact ⟨ret_bool HR.out.symm, box_new _⟩
        · have hr : oddB ⟨3, v, []⟩ l = true := by unfold oddB nodeB kidsN; rw [decide_eq_false (fun h => by have h1 := h.1; simp at h1; omega)]; rfl
          have b1 : ((l : Int) != 1) = true := by rw [bne_iff_ne]; omega
          have HR := Lib.hid hr
          clear hr HMAY HLEN hl0
          go_enter Tryz.func32, Tryz.ntmps32
          go_wp2
          go_ret
          exact ⟨ret_bool HR.out.symm, box_new _⟩
      · have hr : oddB ⟨3, v, e⟩ l = true := by unfold oddB nodeB kidsN; rw [decide_eq_false (fun h => hne (HLEN.out.mpr (h.2.2.2.1 (by simp))))]; rfl
        have b1 : ((ne : Int) != 0) = true := by rw [bne_iff_ne]; omega
        have HR := Lib.hid hr
        clear hr HMAY HLEN hne
        go_enter Tryz.func32, Tryz.ntmps32
        go_wp2
        go_ret
        exact ⟨ret_bool HR.out.symm, box_new _⟩
  · by_cases hv : v < 0
    · have hr : oddB ⟨4, v, e⟩ l = true := by unfold oddB nodeB kidsN; rw [decide_eq_false (fun h => by have h1 := h.2.1; simp only at h1; omega)]; rfl
      have b0 : decide (v < 0) = true := decide_eq_true hv
      have HR := Lib.hid hr
      clear hr HMAY HLEN
      go_enter Tryz.func32, Tryz.ntmps32
      go_wp2
      go_ret
      exact ⟨ret_bool HR.out.symm, box_new _⟩
    · have b0 : decide (v < 0) = false := decide_eq_false hv
      cases hm : decide (e = ofA e)
      · have hr : oddB ⟨4, v, e⟩ l = true := by unfold oddB nodeB kidsN; rw [decide_eq_false (fun h => (of_decide_eq_false hm) h.2.2.2.2)]; rfl
        have HR := Lib.hid hr; have HMM := Lib.hid hm
        clear hr HLEN hm
        go_enter Tryz.func32, Tryz.ntmps32
        go_wp2_with (fail)
        refine (HMAY.out _).mono ?_
        rintro e1 w1 ⟨rfl, hb1⟩
        obtain ⟨c0, c1, c2, c3⟩ := box4 (N := w.heap.size) rfl hb1
        have HB := Lib.hid (below_then (box_new _) hb1 (by simp))
        clear hb1
        rw [HMM.out]
        go_wp2
        go_ret
        exact ⟨ret_bool HR.out.symm, HB.out⟩
      · by_cases hl2 : l = 2
        · subst hl2
          have hr : oddB ⟨4, v, e⟩ 2 = false := by unfold oddB nodeB kidsN; rw [decide_eq_true (by have := of_decide_eq_true hm; simp; exact ⟨by omega, this⟩)]; rfl
          have HR := Lib.hid hr; have HMM := Lib.hid hm
          clear hr HLEN hm
          go_enter Tryz.func32, Tryz.ntmps32
          go_wp2_with (fail)
          refine (HMAY.out _).mono ?_
          rintro e1 w1 ⟨rfl, hb1⟩
          obtain ⟨c0, c1, c2, c3⟩ := box4 (N := w.heap.size) rfl hb1
          have HB := Lib.hid (below_then (box_new _) hb1 (by simp))
          clear hb1
          rw [HMM.out]
          go_wp2
          go_ret
          exact ⟨ret_bool HR.out.symm, HB.out⟩
        · have hr : oddB ⟨4, v, e⟩ l = true := by unfold oddB nodeB kidsN; rw [decide_eq_false (fun h => by have h1 := h.1; simp at h1; omega)]; rfl
          have b1 : ((l : Int) != 2) = true := by rw [bne_iff_ne]; omega
          have HR := Lib.hid hr; have HMM := Lib.hid hm
          clear hr HLEN hm hl2
          go_enter Tryz.func32, Tryz.ntmps32
          go_wp2_with (fail)
          refine (HMAY.out _).mono ?_
          rintro e1 w1 ⟨rfl, hb1⟩
          obtain ⟨c0, c1, c2, c3⟩ := box4 (N := w.heap.size) rfl hb1
          have HB := Lib.hid (below_then (box_new _) hb1 (by simp))
          clear hb1
          rw [HMM.out]
          go_wp2
          go_ret
          exact ⟨ret_bool HR.out.symm, HB.out⟩
  · have hr : oddB ⟨k, v, e⟩ l = true := by unfold oddB nodeB kidsN; rw [decide_eq_false (fun h => by have h5 := h.1; simp only [if_neg h1, if_neg h3, if_neg (show ¬ (k = 2 ∨ k = 4) from fun e => e.elim h2 h4)] at h5; omega)]; rfl
    have b1 : (k == 1) = false := by simpa using h1
    have b2 : (k == 2) = false := by simpa using h2
    have b3 : (k == 3) = false := by simpa using h3
    have b4 : (k == 4) = false := by simpa using h4
    have HR := Lib.hid hr
    clear hr HMAY HLEN h1 h2 h3 h4
    go_enter Tryz.func32, Tryz.ntmps32
    go_wp2
    go_ret
    exact ⟨ret_bool HR.out.symm, box_new _⟩

set_option maxRecDepth 10000 in
set_option maxHeartbeats 6400000 in
theorem someOdd_walk :
    ∀ (m : Nat) (ts : List RT) (p : Option Addr) (l d : Nat) (w : World), wts ts ≤ m → ts.length = l → l ≤ maxLen → Kids w p ts → allK (effB 100000) ts = true →
    Calls Tryz.prog 31 #[.func (.func 32) #[] #[], .slice p l d] w fun e w' => e = .returned (.bool (!mayK ts)) ∧ Below w.heap.size w w' := by
  intro m
  induction m using Nat.strongRecOn with
  | _ m ih =>
    intro ts p l d w hm hl hlm hk hi
    unfold maxLen at hlm
    have HM := Lib.hid hm; have HL := Lib.hid hl; have HK := Lib.hid hk; have HI := Lib.hid hi; have IH := Lib.hid ih
    clear hm hl hk hi ih
    go_enter Tryz.func31, Tryz.ntmps31
    go_wp2_with (fail)
    go_loopw [6, 9] (fun _ i wr => ∃ j : Nat, j ≤ l ∧ i = .int .i64 j ∧ Hid (mayK ts = mayK (ts.drop j)) ∧ Hid (Below w.heap.size w wr)) (fun _ i _ => l - (intOf i).toNat)
    case atStart => exact ⟨0, Nat.zero_le _, rfl, Lib.hid (by rw [List.drop_zero]), Lib.hid (Below.refl _ _)⟩
    case round =>
      obtain ⟨j, hj, rfl, HF, HS⟩ := hrel
      by_cases hlt : j < l
      · have hjk : j < ts.length := by rw [HL.out]; exact hlt
        obtain ⟨b, o, q, c', qe, ce', rfl, hkid, c0, c1, c2, c3⟩ := (HK.out.stay HS.out).get j hjk
        have hwm : wts (tget ts j).ks < wts ts := by have h1 := wts_get hjk; have h2 := wt_ks (tget ts j); omega
        have hef := allK_get _ hjk HI.out
        rw [allT_eq, Bool.and_eq_true] at hef
        have hodd := fun O : Obj => odd_walk (tget ts j).h qe (tget ts j).h.e.length ce' q (tget ts j).ks.length c' (wr.alloc O) hkid.ok.k (Nat.le_trans hkid.cap.1 hkid.cap.2) rfl (hkid.eff.below (box_new O)) (eff_iff.1 hef.1).1
        have HJK := Lib.hid hjk; have HKID := Lib.hid hkid; have HWM := Lib.hid hwm; have HODD := Lib.hid hodd; have HEF := Lib.hid hef.2
        clear hjk hkid hwm hodd hef
        go_wp2_with (fail)
        refine (HODD.out _).mono ?_
        rintro e w1 ⟨rfl, hb1⟩
        obtain ⟨b0, b1, b2, b3⟩ := box4 (N := wr.heap.size) rfl hb1
        have hb1' := (box_new (w := wr) (.cells #[.int .u8 (tget ts j).h.k, .int .i64 (tget ts j).h.r, .slice qe (tget ts j).h.e.length ce', .slice q (tget ts j).ks.length c'] 25)).trans (hb1.mono (by simp))
        have HB1 := Lib.hid (below_then HS.out hb1' HS.out.size)
        have HW1 := Lib.hid hb1'
        clear hb1 hb1' c0 c1 c2 c3
        cases hb : nodeB (tget ts j).h (tget ts j).ks.length
        · have hno : mayK (ts.drop j) = false := allK_no nodeB HJK.out hb
          have hod : oddB (tget ts j).h (tget ts j).ks.length = true := by unfold oddB; rw [hb]; rfl
          have HNO := Lib.hid hno; have HOD := Lib.hid hod
          clear hno hb hod
          rw [HOD.out]
          go_wp2
          go_ret
          exact ⟨ret_bool (by rw [HF.out, HNO.out]; rfl), HB1.out⟩
        · have hod : oddB (tget ts j).h (tget ts j).ks.length = false := by unfold oddB; rw [hb]; rfl
          have HB := Lib.hid hb; have HOD := Lib.hid hod
          clear hb hod
          rw [HOD.out]
          go_wp2_with (fail)
          refine (IH.out (wts (tget ts j).ks) (by have := HWM.out; have := HM.out; omega) (tget ts j).ks q _ c' _ (Nat.le_refl _) rfl (Nat.le_trans HKID.out.cap.1 HKID.out.cap.2) (HKID.out.below HW1.out).kids HEF.out).mono ?_
          rintro e w2 ⟨rfl, hb2⟩
          have HB2 := Lib.hid (below_then HB1.out hb2 HB1.out.size)
          clear hb2 b0 b1 b2 b3
          cases hk : mayK (tget ts j).ks
          · have hno : mayK (ts.drop j) = false := allK_kno nodeB HJK.out hk
            have HNO := Lib.hid hno
            clear hno hk
            go_wp2
            go_ret
            exact ⟨ret_bool (by rw [HF.out, HNO.out]; rfl), HB2.out⟩
          · have hyes : mayK (ts.drop j) = mayK (ts.drop (j + 1)) := allK_yes nodeB HJK.out HB.out hk
            have HYES := Lib.hid hyes
            clear hyes hk
            go_wp2
            go_roundw
            case rel => exact ⟨j + 1, by omega, by go_num, Lib.hid (HF.out.trans HYES.out), HB2⟩
            case measure => simp [intOf]; omega
      · obtain rfl : j = l := by omega
        have hr := HF.out
        rw [List.drop_eq_nil_of_le (by rw [HL.out]; exact Nat.le_refl _), mayK_nil] at hr
        have HR := Lib.hid hr
        clear hr
        go_wp2
        go_ret
        exact ⟨ret_bool (by rw [HR.out]; rfl), HS.out⟩

set_option maxHeartbeats 1600000 in
theorem may_walk (ts : List RT) (p : Option Addr) (l d : Nat) (w : World) (hl : ts.length = l) (hlm : l ≤ maxLen) (hk : Kids w p ts) (he : allK (effB 100000) ts = true) :
    Calls Tryz.prog 11 #[.slice p l d] w fun e w' => e = .returned (.bool (mayK ts)) ∧ Below w.heap.size w w' := by
  have ha := someOdd_walk (wts ts) ts p l d w (Nat.le_refl _) hl hlm hk he
  have HA := Lib.hid ha
  clear ha hl hlm hk he
  generalize mayK ts = X at *
  go_enter Tryz.func11, Tryz.ntmps11
  go_wp2_with (fail)
  refine (HA.out).mono ?_
  rintro e w1 ⟨rfl, hb1⟩
  have HB1 := Lib.hid hb1
  clear hb1
  cases X
  all_goals
    go_wp2_with (fail)
    go_ret
    exact ⟨rfl, HB1.out⟩
end Rt
end Go.Proofs.YtabegjpledammaaGreatDoor
namespace Go.Proofs.YtabegjpledammaaGreatDoor
open Go.RowKit
set_option linter.unusedVariables false
set_option linter.unusedSimpArgs false
namespace Rt
open Effect (At AtOk AtsAt Rd ofA ret_i64 ret_bool lt_of_block heap_alloc_new)

/-- Is a block a row of this type? -/
def IsT (T : TypeId) (O : Option Obj) : Prop := ∃ cs fz, O = some (.cells cs T fz)
/-- What is turned: block N, rows of type T from N on, and what is new. -/
structure Wro (T : TypeId) (N : Nat) (w w' : World) : Prop where
  os : w'.os = w.os
  tape : w'.tape = w.tape
  output : w'.output = w.output
  size : w.heap.size ≤ w'.heap.size
  low : ∀ k, k < w.heap.size → k < N → w'.heap[k]? = w.heap[k]?
  high : ∀ k, k < w.heap.size → k ≠ N → ¬ IsT T w.heap[k]? → w'.heap[k]? = w.heap[k]?
theorem Wro.refl (T : TypeId) (N : Nat) (w : World) : Wro T N w w := ⟨rfl, rfl, rfl, Nat.le_refl _, fun _ _ _ => rfl, fun _ _ _ _ => rfl⟩
theorem Wro.trans {T : TypeId} {N : Nat} {a b c : World} (h : Wro T N a b) (k : Wro T N b c) : Wro T N a c :=
  ⟨k.os.trans h.os, k.tape.trans h.tape, k.output.trans h.output, Nat.le_trans h.size k.size, fun i hi hn => (k.low i (Nat.lt_of_lt_of_le hi h.size) hn).trans (h.low i hi hn),
    fun i hi hn hs => (k.high i (Nat.lt_of_lt_of_le hi h.size) hn (by rw [h.high i hi hn hs]; exact hs)).trans (h.high i hi hn hs)⟩
theorem Wro.of_below {T : TypeId} {N : Nat} {w w' : World} (h : Below w.heap.size w w') : Wro T N w w' := ⟨h.os, h.tape, h.output, h.size, fun k hk _ => h.block k hk, fun k hk _ _ => h.block k hk⟩
theorem Wro.alloc {T : TypeId} {N : Nat} {w w' : World} (h : Wro T N w w') (O : Obj) : Wro T N w (w'.alloc O) := h.trans (Wro.of_below (box_new O))
theorem Wro.below {T : TypeId} {N : Nat} {w w' : World} (h : Wro T N w w') {a : World} {B : Nat} (hB : B ≤ N) (ha : Below B a w) (hN : B ≤ a.heap.size) : Below B a w' :=
  ⟨h.os.trans ha.os, h.tape.trans ha.tape, h.output.trans ha.output, Nat.le_trans ha.size h.size, fun k hk => (h.low k (Nat.lt_of_lt_of_le (Nat.lt_of_lt_of_le hk hN) ha.size) (by omega)).trans (ha.block k hk)⟩
theorem notT {T U : TypeId} {cs : Array Value} {fz : Nat × Nat} (h : U ≠ T) : ¬ IsT T (some (.cells cs U fz)) := by
  rintro ⟨cs', fz', e⟩
  injection e with e
  injection e with e1 e2 e3
  exact h e2
/-- A box that stays. -/
theorem Wro.keep {T U : TypeId} {N : Nat} {w w' : World} {b : Nat} {cs : Array Value} {fz : Nat × Nat} (h : Wro T N w w') (hb : w.heap[b]? = some (.cells cs U fz)) (hU : U ≠ T) (hN : b ≠ N) : w'.heap[b]? = some (.cells cs U fz) :=
  (h.high b (lt_of_block hb) hN (by rw [hb]; exact notT hU)).trans hb
theorem cells4 {W : World} {N : Nat} {a0 a1 a2 a3 : Value} {ty : TypeId} (h : W.heap[N]? = some (.cells #[a0, a1, a2, a3] ty (0, 0))) :
    (W.cell? ⟨N, 0, none⟩ = some a0 ∧ W.cell? ⟨N, 1, none⟩ = some a1 ∧ W.cell? ⟨N, 2, none⟩ = some a2 ∧ W.cell? ⟨N, 3, none⟩ = some a3) ∧ (W.frozen? ⟨N, 0, none⟩ = false ∧ W.frozen? ⟨N, 1, none⟩ = false ∧ W.frozen? ⟨N, 2, none⟩ = false ∧ W.frozen? ⟨N, 3, none⟩ = false) := by
  simp [World.cell?, World.frozen?, h]

mutual
/-- All nodes, each ahead of its kids'. -/
def hdsT : RT → List Hd
  | .node h l => h :: hdsK l
def hdsK : List RT → List Hd
  | [] => []
  | t :: ts => hdsT t ++ hdsK ts
end
theorem hdsT_eq (t : RT) : hdsT t = t.h :: hdsK t.ks := by cases t; conv => lhs; unfold hdsT
                                                           rfl
theorem hdsK_nil : hdsK [] = [] := by unfold hdsK; rfl
theorem hdsK_cons (t : RT) (ts : List RT) : hdsK (t :: ts) = hdsT t ++ hdsK ts := by conv => lhs; unfold hdsK
theorem hdsK_drop (ts : List RT) (j : Nat) (h : j < ts.length) : hdsK (ts.drop j) = (tget ts j).h :: (hdsK (tget ts j).ks ++ hdsK (ts.drop (j + 1))) := by
  rw [drop_tget ts j h, hdsK_cons, hdsT_eq]; rfl
theorem hds_len : ∀ m : Nat, (∀ t, wt t ≤ m → (hdsT t).length = wt t) ∧ (∀ ts : List RT, wts ts ≤ m → (hdsK ts).length = wts ts) := by
  intro m
  induction m with
  | zero =>
    refine ⟨fun t h => by have := wt_pos t; omega, fun ts h => ?_⟩
    cases ts with
    | nil => rw [hdsK_nil, wts_nil]; rfl
    | cons t ts => rw [wts_cons] at h; have := wt_pos t; omega
  | succ m ih =>
    have hT : ∀ t, wt t ≤ m + 1 → (hdsT t).length = wt t := by
      intro t h
      have hk := wt_ks t
      rw [hdsT_eq, List.length_cons, ih.2 t.ks (by omega)]; omega
    refine ⟨hT, fun ts => ?_⟩
    induction ts with
    | nil => intro _; rw [hdsK_nil, wts_nil]; rfl
    | cons t ts ihs =>
      intro h
      rw [wts_cons] at h
      rw [hdsK_cons, List.length_append, wts_cons, hT t (by omega), ihs (by omega)]
theorem hdsK_len (ts : List RT) : (hdsK ts).length = wts ts := (hds_len (wts ts)).2 ts (Nat.le_refl _)
/-- Each of a row of steps is in order. -/
def EOk {α : Type} (step : α → Hd → α) (ok : α → Hd → Prop) : α → List Hd → Prop
  | _, [] => True
  | a, h :: l => ok a h ∧ EOk step ok (step a h) l
theorem eok_append {α : Type} {step : α → Hd → α} {ok : α → Hd → Prop} : ∀ {l m : List Hd} {a : α}, EOk step ok a (l ++ m) → EOk step ok a l ∧ EOk step ok (l.foldl step a) m
  | [], m, a, h => ⟨trivial, h⟩
  | x :: l, m, a, h => ⟨⟨h.1, (eok_append h.2).1⟩, (eok_append h.2).2⟩

set_option maxRecDepth 100000 in
set_option maxHeartbeats 6400000 in
theorem someEach {α : Type} (T : TypeId) (N E : Nat) (w0 : World) (hT : 25 ≠ T) (hN : w0.heap.size ≤ N) (Inv : α → World → Prop) (step : α → Hd → α) (ok : α → Hd → Prop)
    (hC : ∀ a h pe ne ce p l c W, Inv a W → ok a h → HdOk h → h.e.length = ne → EffIs w0 pe ne ce h.e → Below w0.heap.size w0 W →
      Calls Tryz.prog 59 #[.agg #[.int .u8 h.k, .int .i64 h.r, .slice pe ne ce, .slice p l c], .pointer (some ⟨E, 0, none⟩)] W fun en W' => en = .returned (.bool false) ∧ Inv (step a h) W' ∧ Wro T N W W')
    (hI : ∀ a W O, Inv a W → Inv a (W.alloc O)) (hNl : ∀ a W, Inv a W → N < W.heap.size) :
    ∀ (m : Nat) (ts : List RT) (p : Option Addr) (l d : Nat) (a : α) (w : World), wts ts ≤ m → ts.length = l → l ≤ maxLen → Kids w0 p ts → Below w0.heap.size w0 w → Inv a w → EOk step ok a (hdsK ts) →
    Calls Tryz.prog 31 #[.func (.func 59) #[] #[.pointer (some ⟨E, 0, none⟩)], .slice p l d] w fun en w' => en = .returned (.bool false) ∧ Inv ((hdsK ts).foldl step a) w' ∧ Wro T N w w' := by
  intro m
  induction m using Nat.strongRecOn with
  | _ m ih =>
    intro ts p l d a w hm hl hlm hk hb0 hi hok
    unfold maxLen at hlm
    have HM := Lib.hid hm; have HL := Lib.hid hl; have HK := Lib.hid hk; have HB0 := Lib.hid hb0; have HIN := Lib.hid hi; have HOK := Lib.hid hok; have IH := Lib.hid ih; have HC := Lib.hid hC; have HI := Lib.hid hI; have HNL := Lib.hid hNl; have HT := Lib.hid hT
    clear hm hl hk hb0 hi hok ih hC hI hNl hT
    go_enter Tryz.func31, Tryz.ntmps31
    go_wp2_with (fail)
    go_loopw [6, 9] (fun _ i wr => ∃ (j : Nat) (b : α), j ≤ l ∧ i = .int .i64 j ∧ Hid (Inv b wr) ∧ Hid ((hdsK ts).foldl step a = (hdsK (ts.drop j)).foldl step b) ∧ Hid (EOk step ok b (hdsK (ts.drop j))) ∧ Hid (Wro T N w wr)) (fun _ i _ => l - (intOf i).toNat)
    case atStart => exact ⟨0, a, Nat.zero_le _, rfl, HIN, Lib.hid (by rw [List.drop_zero]), Lib.hid (by rw [List.drop_zero]; exact HOK.out), Lib.hid (Wro.refl _ _ _)⟩
    case round =>
      obtain ⟨j, b, hj, rfl, HB, HF, HO, HS⟩ := hrel
      have hbel : Below w0.heap.size w0 wr := HS.out.below hN HB0.out (Nat.le_refl _)
      have HBEL := Lib.hid hbel
      clear hbel
      by_cases hlt : j < l
      · have hjk : j < ts.length := by rw [HL.out]; exact hlt
        obtain ⟨b', o, q, c', qe, ce', rfl, hkid, e0, e1, e2, e3⟩ := HK.out.get j hjk
        have hR := fun (a : Addr) (v : Value) (hv : w0.cell? a = some v) => (HBEL.out.cell (World.block_lt_of_cell? w0 _ hv)).trans hv
        have c0 := hR _ _ e0
        have c1 := hR _ _ e1
        have c2 := hR _ _ e2
        have c3 := hR _ _ e3
        have hwm : wts (tget ts j).ks < wts ts := by have h1 := wts_get hjk; have h2 := wt_ks (tget ts j); omega
        have hdr := hdsK_drop ts j hjk
        have ho := HO.out
        rw [hdr] at ho
        have hf2 := HF.out
        rw [hdr, List.foldl_cons, List.foldl_append] at hf2
        have hsp := eok_append ho.2
        have hcc := fun O : Obj => HC.out b (tget ts j).h qe (tget ts j).h.e.length ce' q (tget ts j).ks.length c' (wr.alloc O) (HI.out b wr O HB.out) ho.1 hkid.ok rfl hkid.eff (below_then HBEL.out (box_new O) HBEL.out.size)
        have hnlt := HNL.out b wr HB.out
        have HJK := Lib.hid hjk; have HKID := Lib.hid hkid; have HWM := Lib.hid hwm; have HCC := Lib.hid hcc; have HF2 := Lib.hid hf2; have HS1 := Lib.hid hsp.1; have HS2 := Lib.hid hsp.2; have HNT := Lib.hid hnlt
        clear hjk hkid hwm hcc hf2 hsp ho hdr HF HO HB hnlt hR e0 e1 e2 e3
        go_wp2_with (fail)
        refine (HCC.out _).mono ?_
        rintro en w1 ⟨rfl, hi1, hs1⟩
        have hx := hs1.keep (heap_alloc_new wr _) HT.out (by have := HNT.out; omega)
        obtain ⟨⟨b0, b1, b2, b3⟩, -⟩ := cells4 hx
        have HSS1 := Lib.hid ((HS.out.alloc _).trans hs1)
        have HI1 := Lib.hid hi1
        clear hx hi1 hs1 c0 c1 c2 c3
        go_wp2_with (fail)
        refine (IH.out (wts (tget ts j).ks) (by have := HWM.out; have := HM.out; omega) (tget ts j).ks q _ c' _ w1 (Nat.le_refl _) rfl (Nat.le_trans HKID.out.cap.1 HKID.out.cap.2) HKID.out.kids (HSS1.out.below hN HB0.out (Nat.le_refl _)) HI1.out HS1.out).mono ?_
        rintro en w2 ⟨rfl, hi2, hs2⟩
        have HSS2 := Lib.hid (HSS1.out.trans hs2)
        have HI2 := Lib.hid hi2
        clear hi2 hs2 b0 b1 b2 b3
        go_wp2
        go_roundw
        case rel => exact ⟨j + 1, _, by omega, by go_num, HI2, HF2, HS2, HSS2⟩
        case measure => simp [intOf]; omega
      · obtain rfl : j = l := by omega
        have hr := HF.out
        rw [List.drop_eq_nil_of_le (by rw [HL.out]; exact Nat.le_refl _), hdsK_nil, List.foldl_nil] at hr
        have HR := Lib.hid hr
        clear hr
        go_wp2
        go_ret
        exact ⟨rfl, by rw [HR.out]; exact HB.out, HS.out⟩

set_option maxHeartbeats 1600000 in
/-- What each does with what some does. -/
theorem each_of (F N : Nat) (p : Option Addr) (l d : Nat) (w : World) (Q : World → Prop)
    (h : Calls Tryz.prog 31 #[.func (.func 59) #[] #[.pointer (some ⟨w.heap.size, 0, none⟩)], .slice p l d] (w.alloc (.cells #[.func (.func F) #[] #[.pointer (some ⟨N, 0, none⟩)]] 55)) fun en w' => en = .returned (.bool false) ∧ Q w') :
    Calls Tryz.prog 33 #[.func (.func F) #[] #[.pointer (some ⟨N, 0, none⟩)], .slice p l d] w fun en w' => en = .returned (.tuple #[]) ∧ Q w' := by
  have H := Lib.hid h
  clear h
  go_enter Tryz.func33, Tryz.ntmps33
  go_wp2_with (fail)
  refine H.out.mono ?_
  rintro en w1 ⟨rfl, hq⟩
  have HQ := Lib.hid hq
  clear hq
  go_wp2_with (fail)
  go_end0
  exact ⟨rfl, HQ.out⟩

/-! ### Size -/
/-- The count's block, and that of the function that counts. -/
def Cnt (N E n : Nat) (W : World) : Prop := W.heap[N]? = some (.cells #[.int .i64 n] 3 (0, 0)) ∧ W.heap[E]? = some (.cells #[.func (.func 34) #[] #[.pointer (some ⟨N, 0, none⟩)]] 55 (0, 0))
theorem Cnt.alloc {N E n : Nat} {W : World} (h : Cnt N E n W) (O : Obj) : Cnt N E n (W.alloc O) := ⟨((box_new O).block N (lt_of_block h.1)).trans h.1, ((box_new O).block E (lt_of_block h.2)).trans h.2⟩
theorem fn_ne_int : 55 ≠ 3 := by decide
theorem rt_ne_int : 25 ≠ 3 := by decide
theorem Wro.set {T : TypeId} {N : Nat} {a w : World} (h : Wro T N a w) (j : Nat) (u : Value) : Wro T N a (w.setCell ⟨N, j, none⟩ u) :=
  h.trans ⟨rfl, rfl, rfl, by simp [World.setCell], fun i hi hn => Below.heap_setCell _ _ _ _ (Nat.ne_of_lt hn), fun i hi hn _ => Below.heap_setCell _ _ _ _ (fun e => hn e)⟩

set_option maxHeartbeats 1600000 in
theorem size1_walk (N E n : Nat) (W : World) (h : Hd) (pe : Option Addr) (ne ce : Nat) (p : Option Addr) (l c : Nat) (hC : Cnt N E n W) (hEN : E ≠ N) (hn : n < 1000000) :
    Calls Tryz.prog 34 #[.agg #[.int .u8 h.k, .int .i64 h.r, .slice pe ne ce, .slice p l c], .pointer (some ⟨N, 0, none⟩)] W fun en W' => en = .returned (.tuple #[]) ∧ Cnt N E (n + 1) W' ∧ Wro 3 N W W' := by
  obtain ⟨k, v, e⟩ := h
  obtain ⟨hC1, hC2⟩ := hC
  have cN : W.cell? ⟨N, 0, none⟩ = some (.int .i64 n) := by simp [World.cell?, hC1]
  have fN : W.frozen? ⟨N, 0, none⟩ = false := by simp [World.frozen?, hC1]
  have hNl : N < W.heap.size := lt_of_block hC1
  have hEl : E < W.heap.size := lt_of_block hC2
  have hend : ∀ O : Obj, (Cnt N E (n + 1) ((W.setCell ⟨N, 0, none⟩ (.int .i64 ((n : Int) + 1))).alloc O)) ∧ Wro 3 N W ((W.setCell ⟨N, 0, none⟩ (.int .i64 ((n : Int) + 1))).alloc O) := fun O => by
    refine ⟨?_, ((Wro.refl _ N W).set 0 _).alloc O⟩
    have h1 : (W.setCell ⟨N, 0, none⟩ (.int .i64 ((n : Int) + 1))).heap[N]? = some (.cells #[.int .i64 ((n + 1 : Nat) : Int)] 3 (0, 0)) := by simp [World.setCell, Array.getElem?_modify, hC1]
    have h2 : (W.setCell ⟨N, 0, none⟩ (.int .i64 ((n : Int) + 1))).heap[E]? = some (.cells #[.func (.func 34) #[] #[.pointer (some ⟨N, 0, none⟩)]] 55 (0, 0)) := (Below.heap_setCell _ _ _ _ (fun e => hEN e)).trans hC2
    exact ⟨(Below.heap_alloc _ O N (by simp [World.setCell]; exact hNl)).trans h1, (Below.heap_alloc _ O E (by simp [World.setCell]; exact hEl)).trans h2⟩
  have HE := Lib.hid hend
  clear hend hC1 hC2
  go_enter Tryz.func34, Tryz.ntmps34
  go_wp2
  go_end0
  exact ⟨rfl, HE.out _⟩
set_option maxHeartbeats 1600000 in
theorem eachSize_walk (N E n : Nat) (W : World) (h : Hd) (pe : Option Addr) (ne ce : Nat) (p : Option Addr) (l c : Nat) (hC : Cnt N E n W) (hEN : E ≠ N) (hn : n < 1000000) :
    Calls Tryz.prog 59 #[.agg #[.int .u8 h.k, .int .i64 h.r, .slice pe ne ce, .slice p l c], .pointer (some ⟨E, 0, none⟩)] W fun en W' => en = .returned (.bool false) ∧ Cnt N E (n + 1) W' ∧ Wro 3 N W W' := by
  have h1 := fun O : Obj => size1_walk N E n (W.alloc O) h pe ne ce p l c (hC.alloc O) hEN hn
  obtain ⟨k, v, e⟩ := h
  have cE : W.cell? ⟨E, 0, none⟩ = some (.func (.func 34) #[] #[.pointer (some ⟨N, 0, none⟩)]) := by simp [World.cell?, hC.2]
  have hEl : E < W.heap.size := lt_of_block hC.2
  have H1 := Lib.hid h1
  clear h1 hC
  go_enter Tryz.func59, Tryz.ntmps59
  go_wp2_with (fail)
  refine (H1.out _).mono ?_
  rintro en w1 ⟨rfl, hc, hs⟩
  have HC := Lib.hid hc; have HS := Lib.hid hs
  clear hc hs
  go_wp2_with (fail)
  go_ret
  exact ⟨rfl, HC.out, ((Wro.refl _ _ _).alloc _).trans HS.out⟩
theorem fold_count : ∀ (l : List Hd) (n : Nat), l.foldl (fun n _ => n + 1) n = n + l.length
  | [], n => rfl
  | h :: l, n => by rw [List.foldl_cons, fold_count l (n + 1), List.length_cons]; omega
theorem count_ok : ∀ (l : List Hd) (n M : Nat), n + l.length ≤ M → EOk (fun n _ => n + 1) (fun n _ => n < M) n l
  | [], n, M, _ => trivial
  | h :: l, n, M, hn => by
    rw [List.length_cons] at hn
    exact ⟨by show n < M; omega, count_ok l (n + 1) M (by omega)⟩
set_option maxHeartbeats 1600000 in
theorem size_walk (ts : List RT) (p : Option Addr) (l d : Nat) (w : World) (hl : ts.length = l) (hlm : l ≤ maxLen) (hk : Kids w p ts) (hw : wts ts ≤ 1000000) :
    Calls Tryz.prog 12 #[.slice p l d] w fun e w' => e = .returned (.int .i64 (wts ts : Nat)) ∧ Below w.heap.size w w' := by
  have hsz : (w.alloc (.cells #[.int .i64 0] 3)).heap.size = w.heap.size + 1 := by simp
  have h0 : Cnt w.heap.size (w.alloc (.cells #[.int .i64 0] 3)).heap.size 0 ((w.alloc (.cells #[.int .i64 0] 3)).alloc (.cells #[.func (.func 34) #[] #[.pointer (some ⟨w.heap.size, 0, none⟩)]] 55)) := by
    refine ⟨?_, heap_alloc_new _ _⟩
    exact ((box_new _).block _ (by simp)).trans (heap_alloc_new _ _)
  have h1 := someEach (α := Nat) 3 w.heap.size (w.alloc (.cells #[.int .i64 0] 3)).heap.size w rt_ne_int (Nat.le_refl _) (fun n W => Cnt w.heap.size (w.alloc (.cells #[.int .i64 0] 3)).heap.size n W) (fun n _ => n + 1) (fun n _ => n < 1000000)
    (fun a h pe ne ce p l c W hi hok _ _ _ _ => eachSize_walk _ _ a W h pe ne ce p l c hi (by omega) hok) (fun a W O hi => hi.alloc O) (fun a W hi => lt_of_block hi.1) (wts ts) ts p l d 0 _ (Nat.le_refl _) hl hlm hk ((box_new _).trans ((box_new _).mono (by simp))) h0 (count_ok _ _ _ (by rw [hdsK_len]; omega))
  have h2 := each_of _ _ p l d _ (fun w' => Cnt w.heap.size (w.alloc (.cells #[.int .i64 0] 3)).heap.size (wts ts) w' ∧ Below w.heap.size w w') (h1.mono (by
    rintro en w' ⟨rfl, hi, hs⟩
    rw [fold_count, hdsK_len, Nat.zero_add] at hi
    exact ⟨rfl, hi, hs.below (Nat.le_refl _) ((box_new _).trans ((box_new _).mono (by simp))) (Nat.le_refl _)⟩))
  have H2 := Lib.hid h2; have HW := Lib.hid hw
  clear h0 h1 h2 hk hl hlm hw hsz
  go_enter Tryz.func12, Tryz.ntmps12
  go_wp2_with (fail)
  refine H2.out.mono ?_
  rintro e w1 ⟨rfl, hC1, hb1⟩
  have c1 : w1.cell? ⟨w.heap.size, 0, none⟩ = some (.int .i64 (wts ts : Nat)) := by simp [World.cell?, hC1.1]
  have HB1 := Lib.hid hb1
  have HW2 := HW.out
  generalize hX : wts ts = X at *
  have HX := Lib.hid hX
  clear hC1 hX hb1
  go_wp2
  go_ret
  exact ⟨by rw [HX.out]; rfl, HB1.out⟩
end Rt
end Go.Proofs.YtabegjpledammaaGreatDoor
