/- The walk of the document's sameness of terms. -/
import Derived.Test.YtlmaphaipcfppaaGreatDoorTermAll
import Derived.Test.YtlmaphaipcfppaaGreatDoorWordsMath
import Derived.StillTailTactics
namespace Go.Proofs.YtlmaphaipcfppaaGreatDoor
open Go.RowKit
set_option linter.unusedVariables false
namespace Term
open Words (str_no str_yes)

def sameH (a b : Hd) : Bool := decide (a.k = b.k ∧ a.op = b.op ∧ a.n = b.n ∧ a.name = b.name ∧ a.arg = b.arg ∧ a.exn = b.exn)
mutual
/-- The same, but for places? -/
def sameT : Tm → Tm → Bool
  | .node h l, u => sameH h u.h && decide (l.length = u.ks.length) && sameK l u.ks
def sameK : List Tm → List Tm → Bool
  | [], _ => true
  | _ :: _, [] => true
  | t :: ts, u :: us => sameT t u && sameK ts us
end
theorem sameT_eq (t u : Tm) : sameT t u = (sameH t.h u.h && decide (t.ks.length = u.ks.length) && sameK t.ks u.ks) := by
  cases t
  conv => lhs; unfold sameT
  rfl
theorem sameK_cons (t u : Tm) (ts us : List Tm) : sameK (t :: ts) (u :: us) = (sameT t u && sameK ts us) := by conv => lhs; unfold sameK
theorem sameK_nil (us : List Tm) : sameK [] us = true := by conv => lhs; unfold sameK
theorem sameK_step (ts us : List Tm) (j : Nat) (h1 : j < ts.length) (h2 : j < us.length) : sameK (ts.drop j) (us.drop j) = (sameT (tget ts j) (tget us j) && sameK (ts.drop (j + 1)) (us.drop (j + 1))) := by
  rw [drop_tget ts j h1, drop_tget us j h2, sameK_cons]

set_option maxRecDepth 100000 in
set_option maxHeartbeats 6400000 in
theorem refSame_walk : ∀ (m : Nat) (t u : Tm) (h h' : Hd) (p p' : Option Addr) (l c l' c' : Nat) (w : World), wt t ≤ m → TmIs w h p l c t → TmIs w h' p' l' c' u →
    Calls Tryz.prog 18 #[.agg #[.int .u8 h.k, .int .u8 h.op, .int .i64 h.pl, .int .i64 h.n, .string h.name, .string h.arg, .string h.exn, .slice p l c],
      .agg #[.int .u8 h'.k, .int .u8 h'.op, .int .i64 h'.pl, .int .i64 h'.n, .string h'.name, .string h'.arg, .string h'.exn, .slice p' l' c']] w fun e w' => e = .returned (.bool (sameT t u)) ∧ Below w.heap.size w w' := by
  intro m
  induction m with
  | zero => intro t u h h' p p' l c l' c' w hm; have := wt_pos t; omega
  | succ m ih =>
    intro t u h h' p p' l c l' c' w hm hT hU
    obtain ⟨k, op, pl, nn, nm, ar, ex⟩ := h
    obtain ⟨k', op', pl', nn', nm', ar', ex'⟩ := h'
    have hlc : l ≤ 9223372036854775807 := by have := hT.cap; unfold maxLen at this; omega
    have hlc' : l' ≤ 9223372036854775807 := by have := hU.cap; unfold maxLen at this; omega
    have hbox : ∀ O O' : Obj, Below w.heap.size w ((w.alloc O).alloc O') := fun O O' => ((Below.refl _ _).alloc (Nat.le_refl _) _).alloc (by simp) _
    have HBOX := Lib.hid hbox; have HM := Lib.hid hm
    clear hm hbox
    by_cases hk : k ≠ k'
    · have hr : sameT t u = false := by rw [sameT_eq, hT.head, hU.head]; unfold sameH; simp [hk]
      have HR := Lib.hid hr
      have n1 : (k == k') = false := by simpa using hk
      have n2 : (k != k') = true := by simpa using hk
      clear hr hT hU ih hk
      go_enter Tryz.func18, Tryz.ntmps18
      go_wp2_with (fail)
      go_ret
      exact ⟨ret_bool HR.out.symm, HBOX.out _ _⟩
    have hk' : k = k' := Classical.not_not.1 hk
    clear hk
    subst hk'
    by_cases hop : op ≠ op'
    · have hr : sameT t u = false := by rw [sameT_eq, hT.head, hU.head]; unfold sameH; simp [hop]
      have HR := Lib.hid hr
      have n1 : (op == op') = false := by simpa using hop
      have n2 : (op != op') = true := by simpa using hop
      clear hr hT hU ih hop
      go_enter Tryz.func18, Tryz.ntmps18
      go_wp2_with (fail)
      go_ret
      exact ⟨ret_bool HR.out.symm, HBOX.out _ _⟩
    have hop' : op = op' := Classical.not_not.1 hop
    clear hop
    subst hop'
    by_cases hnn : nn ≠ nn'
    · have hr : sameT t u = false := by rw [sameT_eq, hT.head, hU.head]; unfold sameH; simp [hnn]
      have HR := Lib.hid hr
      have n1 : (nn == nn') = false := by simpa using hnn
      have n2 : (nn != nn') = true := by simpa using hnn
      clear hr hT hU ih hnn
      go_enter Tryz.func18, Tryz.ntmps18
      go_wp2_with (fail)
      go_ret
      exact ⟨ret_bool HR.out.symm, HBOX.out _ _⟩
    have hnn' : nn = nn' := Classical.not_not.1 hnn
    clear hnn
    subst hnn'
    by_cases hnm : nm ≠ nm'
    · have hr : sameT t u = false := by rw [sameT_eq, hT.head, hU.head]; unfold sameH; simp [hnm]
      have HR := Lib.hid hr
      have n1 : (nm.toList == nm'.toList) = false := str_no hnm
      have n2 : (nm.toList != nm'.toList) = true := by rw [bne, str_no hnm]; rfl
      clear hr hT hU ih hnm
      go_enter Tryz.func18, Tryz.ntmps18
      go_wp2_with (fail)
      go_ret
      exact ⟨ret_bool HR.out.symm, HBOX.out _ _⟩
    have hnm' : nm = nm' := Classical.not_not.1 hnm
    clear hnm
    subst hnm'
    by_cases har : ar ≠ ar'
    · have hr : sameT t u = false := by rw [sameT_eq, hT.head, hU.head]; unfold sameH; simp [har]
      have HR := Lib.hid hr
      have n1 : (ar.toList == ar'.toList) = false := str_no har
      have n2 : (ar.toList != ar'.toList) = true := by rw [bne, str_no har]; rfl
      clear hr hT hU ih har
      go_enter Tryz.func18, Tryz.ntmps18
      go_wp2_with (fail)
      go_ret
      exact ⟨ret_bool HR.out.symm, HBOX.out _ _⟩
    have har' : ar = ar' := Classical.not_not.1 har
    clear har
    subst har'
    by_cases hex : ex ≠ ex'
    · have hr : sameT t u = false := by rw [sameT_eq, hT.head, hU.head]; unfold sameH; simp [hex]
      have HR := Lib.hid hr
      have n1 : (ex.toList == ex'.toList) = false := str_no hex
      have n2 : (ex.toList != ex'.toList) = true := by rw [bne, str_no hex]; rfl
      clear hr hT hU ih hex
      go_enter Tryz.func18, Tryz.ntmps18
      go_wp2_with (fail)
      go_ret
      exact ⟨ret_bool HR.out.symm, HBOX.out _ _⟩
    have hex' : ex = ex' := Classical.not_not.1 hex
    clear hex
    subst hex'
    by_cases hll : l ≠ l'
    · have hr : sameT t u = false := by rw [sameT_eq, hT.len, hU.len]; simp [hll]
      have HR := Lib.hid hr
      have n1 : ((l : Int) == (l' : Int)) = false := by rw [beq_eq_false_iff_ne]; omega
      have n2 : ((l : Int) != (l' : Int)) = true := by rw [bne, n1]; rfl
      clear hr hT hU ih
      go_enter Tryz.func18, Tryz.ntmps18
      go_wp2_with (fail)
      go_ret
      exact ⟨ret_bool HR.out.symm, HBOX.out _ _⟩
    have hll' : l = l' := Classical.not_not.1 hll
    clear hll
    subst hll'
    have hr : sameT t u = sameK t.ks u.ks := by rw [sameT_eq, hT.head, hU.head, hT.len, hU.len]; unfold sameH; simp
    have HR := Lib.hid hr; have HT := Lib.hid hT; have HU := Lib.hid hU; have IH := Lib.hid ih
    clear hr hT hU ih hlc'
    go_enter Tryz.func18, Tryz.ntmps18
    go_wp2_with (fail)
    go_loopw [5, 70] (fun _ i wr => ∃ j : Nat, j ≤ l ∧ i = .int .i64 j ∧ sameK t.ks u.ks = sameK (t.ks.drop j) (u.ks.drop j) ∧ Below ((w.alloc (.cells #[.int .u8 k, .int .u8 op, .int .i64 pl, .int .i64 nn, .string nm, .string ar, .string ex, .slice p l c] 29)).alloc (.cells #[.int .u8 k, .int .u8 op, .int .i64 pl', .int .i64 nn, .string nm, .string ar, .string ex, .slice p' l c'] 29)).heap.size ((w.alloc (.cells #[.int .u8 k, .int .u8 op, .int .i64 pl, .int .i64 nn, .string nm, .string ar, .string ex, .slice p l c] 29)).alloc (.cells #[.int .u8 k, .int .u8 op, .int .i64 pl', .int .i64 nn, .string nm, .string ar, .string ex, .slice p' l c'] 29)) wr) (fun _ i _ => l - (intOf i).toNat)
    case atStart => exact ⟨0, Nat.zero_le _, rfl, by rw [List.drop_zero, List.drop_zero], Below.refl _ _⟩
    case round =>
      obtain ⟨j, hj, rfl, hsk, hw⟩ := hrel
      have HW := Lib.hid hw; have HSK := Lib.hid hsk
      have hw1 : Below (w.alloc (.cells #[.int .u8 k, .int .u8 op, .int .i64 pl, .int .i64 nn, .string nm, .string ar, .string ex, .slice p l c] 29)).heap.size (w.alloc (.cells #[.int .u8 k, .int .u8 op, .int .i64 pl, .int .i64 nn, .string nm, .string ar, .string ex, .slice p l c] 29)) wr := ((Below.refl _ _).alloc (Nat.le_refl _) (.cells #[.int .u8 k, .int .u8 op, .int .i64 pl', .int .i64 nn, .string nm, .string ar, .string ex, .slice p' l c'] 29)).trans (hw.mono (by simp))
      have b7 := boxAt hw1 7 rfl
      have b7' := boxAt hw 7 rfl
      rw [show (w.alloc (.cells #[.int .u8 k, .int .u8 op, .int .i64 pl, .int .i64 nn, .string nm, .string ar, .string ex, .slice p l c] 29)).heap.size = w.heap.size + 1 from by simp] at b7'
      have HWW := Lib.hid ((HBOX.out _ _).trans (hw.mono (by simp; omega : w.heap.size ≤ _)))
      clear hw hsk hw1
      by_cases hlt : j < l
      · have hjk : j < t.ks.length := by rw [HT.out.len]; exact hlt
        have hjk' : j < u.ks.length := by rw [HU.out.len]; exact hlt
        have hst := HSK.out
        rw [sameK_step _ _ _ hjk hjk'] at hst
        obtain ⟨b, o, q, d, rfl, hkid, c0, c1, c2, c3, c4, c5, c6, c7⟩ := (HT.out.kids.stay HWW.out).get j hjk
        obtain ⟨b', o', q', d', rfl, hkid', e0, e1, e2, e3, e4, e5, e6, e7⟩ := (HU.out.kids.stay HWW.out).get j hjk'
        have hwk := wts_get hjk
        have hwt := wt_ks t
        have HST := Lib.hid hst; have HK := Lib.hid hkid; have HK' := Lib.hid hkid'
        have HWK := Lib.hid hwk; have HWT := Lib.hid hwt
        clear hst hkid hkid' hwk hwt hjk hjk'
        go_wp2_with (fail)
        go_still_tail 10, (by kernel_rfl)
        go_wp2_with (fail)
        refine (IH.out (tget t.ks j) (tget u.ks j) _ _ q q' _ d _ d' _ (by have := HM.out; have := HWK.out; have := HWT.out; omega) (HK.out.below (Below.refl _ _).drew) (HK'.out.below (Below.refl _ _).drew)).mono ?_
        rintro e w2 ⟨rfl, hb2⟩
        have HW2 := Lib.hid (HW.out.drew.trans (hb2.mono HW.out.size))
        have HWW2 := Lib.hid (HWW.out.drew.trans (hb2.mono HWW.out.size))
        clear hb2 b7 b7' c0 c1 c2 c3 c4 c5 c6 c7 e0 e1 e2 e3 e4 e5 e6 e7
        cases hs : sameT (tget t.ks j) (tget u.ks j)
        · have hr2 := HST.out
          rw [hs, Bool.false_and] at hr2
          have HR2 := Lib.hid hr2
          clear hr2 hs
          go_wp2
          go_ret
          exact ⟨ret_bool (by rw [HR.out, HR2.out]), HWW2.out⟩
        · have hr2 := HST.out
          rw [hs, Bool.true_and] at hr2
          have HR2 := Lib.hid hr2
          clear hr2 hs
          go_wp2
          go_roundw
          case rel => exact ⟨j + 1, by omega, by go_num, HR2.out, HW2.out⟩
          case measure => simp [intOf]; omega
      · obtain rfl : j = l := by omega
        have hr2 := HSK.out
        rw [List.drop_eq_nil_of_le (by rw [HT.out.len]; exact Nat.le_refl _), sameK_nil] at hr2
        have HR2 := Lib.hid hr2
        clear hr2
        go_wp2
        go_ret
        exact ⟨ret_bool (by rw [HR.out, HR2.out]), HWW.out⟩
end Term
end Go.Proofs.YtlmaphaipcfppaaGreatDoor
