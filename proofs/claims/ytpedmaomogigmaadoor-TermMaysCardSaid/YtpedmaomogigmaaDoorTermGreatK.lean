/- The walk of layer 4's bound on many terms. -/
import Derived.Test.YtpedmaomogigmaaDoorTermDepth
namespace Go.Proofs.YtpedmaomogigmaaDoor
open Go.RowKit
set_option linter.unusedVariables false
namespace Term

/-- More than 20 terms, or one that is great? -/
def greatK (ts : List Tm) : Bool := decide (20 < ts.length) || ts.any greatB
theorem any_step (ts : List Tm) (j : Nat) (hj : j < ts.length) : (ts.take (j + 1)).any greatB = ((ts.take j).any greatB || greatB (tget ts j)) := by
  rw [take_tget ts j hj, List.any_append]; simp
theorem great_mem {ts : List Tm} {j : Nat} (hj : j < ts.length) (h : greatB (tget ts j) = true) : ts.any greatB = true := List.any_eq_true.2 ⟨_, tget_mem hj, h⟩
theorem small_all : ∀ ts : List Tm, ts.any greatB = false → wts ts ≤ 400 * ts.length
  | [], _ => by rw [wts_nil]; omega
  | t :: ts, h => by
    rw [List.any_cons, Bool.or_eq_false_iff] at h
    have h1 := (small_of h.1).1
    have h2 := small_all ts h.2
    rw [wts_cons, List.length_cons]
    omega
theorem small_of_great {ts : List Tm} (h : greatK ts = false) : ts.length ≤ 20 ∧ wts ts ≤ 8000 := by
  unfold greatK at h
  rw [Bool.or_eq_false_iff] at h
  have h1 := of_decide_eq_false h.1
  have h2 := small_all ts h.2
  omega

set_option maxHeartbeats 3200000 in
theorem lawGreat_walk (ts : List Tm) (p : Option Addr) (l d : Nat) (w : World) (hl : ts.length = l) (hlm : l ≤ maxLen) (hk : Kids w p ts) :
    Calls Tryd.prog 12 #[.slice p l d] w fun e w' => e = .returned (.bool (greatK ts)) ∧ Below w.heap.size w w' := by
  unfold maxLen at hlm
  by_cases hbig : 20 < l
  · have hr : greatK ts = true := by unfold greatK; rw [hl, decide_eq_true hbig]; rfl
    have HR := Lib.hid hr
    clear hr hl hk
    go_enter Tryd.func12, Tryd.ntmps12
    go_wp2_with (fail)
    go_ret
    exact ⟨ret_bool HR.out.symm, Below.refl _ _⟩
  · have hr : greatK ts = ts.any greatB := by unfold greatK; rw [hl, decide_eq_false hbig]; rfl
    have HR := Lib.hid hr; have HL := Lib.hid hl; have HK := Lib.hid hk
    clear hr hl hk
    go_enter Tryd.func12, Tryd.ntmps12
    go_wp2_with (fail)
    go_loopw [3] (fun i wr => ∃ j : Nat, j ≤ l ∧ i = .int .i64 j ∧ Hid ((ts.take j).any greatB = false) ∧ Hid (Below w.heap.size w wr)) (fun i _ => l - (intOf i).toNat)
    case atStart => exact ⟨0, Nat.zero_le _, rfl, Lib.hid (by rw [List.take_zero]; rfl), Lib.hid (Below.refl _ _)⟩
    case round =>
      obtain ⟨j, hj, rfl, HA, HW⟩ := hrel
      by_cases hlt : j < l
      · have hjk : j < ts.length := by rw [HL.out]; exact hlt
        have hst := any_step ts j hjk
        obtain ⟨b, o, q, c', rfl, hkid, c0, c1, c2, c3, c4, c5, c6, c7⟩ := (HK.out.stay HW.out).get j hjk
        have HST := Lib.hid hst; have HKI := Lib.hid hkid; have HJ := Lib.hid hjk
        clear hst hkid hjk
        go_wp2_with (fail)
        refine (great_walk (tget ts j) _ q _ c' _ HKI.out).mono ?_
        rintro e w2 ⟨rfl, hb2⟩
        have HW2 := Lib.hid (HW.out.trans (hb2.mono HW.out.size))
        clear hb2 c0 c1 c2 c3 c4 c5 c6 c7
        cases hg : greatB (tget ts j)
        · have ha : (ts.take (j + 1)).any greatB = false := by rw [HST.out, HA.out, hg]; rfl
          have HA2 := Lib.hid ha
          clear ha hg
          go_wp2
          go_roundw
          case rel => exact ⟨j + 1, by omega, by go_num, HA2, HW2⟩
          case measure => simp [intOf]; omega
        · have ha := great_mem HJ.out hg
          have HA2 := Lib.hid ha
          clear ha hg
          go_wp2
          go_ret
          exact ⟨ret_bool (by rw [HR.out, HA2.out]), HW2.out⟩
      · obtain rfl : j = l := by omega
        have ha := HA.out
        rw [List.take_of_length_le (by rw [HL.out]; exact Nat.le_refl _)] at ha
        have HA2 := Lib.hid ha
        clear ha
        go_wp2
        go_ret
        exact ⟨ret_bool (by rw [HR.out, HA2.out]), HW.out⟩
end Term
end Go.Proofs.YtpedmaomogigmaaDoor
