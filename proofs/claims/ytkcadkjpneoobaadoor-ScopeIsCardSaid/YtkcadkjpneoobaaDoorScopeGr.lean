/- Whether a program is too great for a statement. -/
import Derived.Test.YtkcadkjpneoobaaDoorScopeView
import Derived.Test.YtkcadkjpneoobaaDoorGTermD
namespace Go.Proofs.YtkcadkjpneoobaaDoor
open Go.RowKit
set_option linter.unusedVariables false
set_option linter.unusedSimpArgs false
namespace Scope
open Term (Tm Hd TmIs ret_bool tget wt greatB)

def greatP (xs : List Ex) (t : Tm) : Bool := decide (100 < xs.length) || greatB t || xs.any fun x => decide (100 < x.s.size)
theorem gr_yes {xs : List Ex} {t : Tm} {j : Nat} (hj : j < xs.length) (h : 100 < (eget xs j).s.size) : greatP xs t = true := by
  have e : eget xs j ∈ xs := by
    unfold eget
    rw [List.getD_eq_getElem?_getD, List.getElem?_eq_getElem hj]
    exact List.getElem_mem hj
  have : (xs.any fun x => decide (100 < x.s.size)) = true := List.any_eq_true.2 ⟨_, e, decide_eq_true h⟩
  unfold greatP
  rw [this, Bool.or_true]
theorem gr_no {xs : List Ex} {t : Tm} (hx : ¬ 100 < xs.length) (ht : greatB t = false) (h : ∀ i, i < xs.length → ¬ 100 < (eget xs i).s.size) : greatP xs t = false := by
  unfold greatP
  rw [decide_eq_false hx, ht, Bool.or_false, Bool.false_or]
  rw [List.any_eq_false]
  intro x hm
  obtain ⟨i, hi, rfl⟩ := List.getElem_of_mem hm
  have := h i hi
  unfold eget at this
  rw [List.getD_eq_getElem?_getD, List.getElem?_eq_getElem hi] at this
  simpa using this
theorem gr_small {xs : List Ex} {t : Tm} (h : greatP xs t = false) : xs.length ≤ 100 ∧ greatB t = false := by
  unfold greatP at h
  rw [Bool.or_eq_false_iff, Bool.or_eq_false_iff] at h
  have := of_decide_eq_false h.1.1
  exact ⟨by omega, h.1.2⟩
set_option maxRecDepth 100000 in
set_option maxHeartbeats 12800000 in
theorem greatP_walk (p : Option Addr) (n d : Nat) (xs : List Ex) (h : Hd) (q : Option Addr) (l c : Nat) (t : Tm) (w : World) (hE : IsExs w p n d xs) (hT : TmIs w h q l c t) :
    Calls Tryd.prog 8 #[.agg #[.slice p n d, .int .u8 h.k, .int .u8 h.op, .int .i64 h.pl, .int .i64 h.n, .string h.name, .string h.arg, .string h.exn, .slice q l c]] w fun e w' => e = .returned (.bool (greatP xs t)) ∧ Below w.heap.size w w' := by
  obtain ⟨hn, hnm, hx⟩ := hE
  subst hn
  unfold maxLen at hnm
  have hal : ∀ O : Obj, Below w.heap.size w (w.alloc O) := fun O => (Below.refl _ _).alloc (Nat.le_refl _) O
  have hgr := fun O : Obj => Term.great_walk t h q l c (w.alloc O) (hT.below (hal O))
  obtain ⟨k, op, pl, nn, nm, ar, ex⟩ := h
  have hX : ∀ W, Below (w.alloc (.cells #[.slice p xs.length d, .int .u8 k, .int .u8 op, .int .i64 pl, .int .i64 nn, .string nm, .string ar, .string ex, .slice q l c] 29)).heap.size (w.alloc (.cells #[.slice p xs.length d, .int .u8 k, .int .u8 op, .int .i64 pl, .int .i64 nn, .string nm, .string ar, .string ex, .slice q l c] 29)) W → Below w.heap.size w W ∧ W.heap[w.heap.size]? = some (.cells #[.slice p xs.length d, .int .u8 k, .int .u8 op, .int .i64 pl, .int .i64 nn, .string nm, .string ar, .string ex, .slice q l c] 29 (0, 0)) :=
    fun W hb => ⟨(hal _).trans (hb.mono (hal _).size), (hb.block _ (by simp)).trans (heap_alloc_new w _)⟩
  have HG := Lib.hid hgr; have HX := Lib.hid hX; have HE := Lib.hid hx
  clear hgr hX hx hT
  go_enter Tryd.func8, Tryd.ntmps8
  by_cases h100 : 100 < xs.length
  · have hi : (100 : Int) < (xs.length : Int) := by omega
    have hr : greatP xs t = true := by unfold greatP; rw [decide_eq_true h100]; rfl
    have HR := Lib.hid hr; have HB := Lib.hid (hal (.cells #[.slice p xs.length d, .int .u8 k, .int .u8 op, .int .i64 pl, .int .i64 nn, .string nm, .string ar, .string ex, .slice q l c] 29))
    clear hr hal h100
    go_wp2_with (fail)
    go_ret
    exact ⟨ret_bool HR.out.symm, HB.out⟩
  have hi : ¬ (100 : Int) < (xs.length : Int) := by omega
  have H100 := Lib.hid h100
  clear hal h100
  go_wp2_with (fail)
  refine (HG.out _).mono ?_
  rintro e w1 ⟨rfl, hb1⟩
  obtain ⟨hB1, hbx⟩ := HX.out w1 hb1
  have HB1 := Lib.hid hB1; have HBX := Lib.hid hbx
  clear hb1 hB1 HX HG
  obtain ⟨⟨r0, r1, r2, r3, r4, r5, r6, r7, r8⟩, s0, s1, s2, s3, s4, s5, s6, s7, s8⟩ := cells9' HBX.out
  have rl := lt_of_block HBX.out
  have hx1 := HE.out.below HB1.out
  have HE1 := Lib.hid hx1
  clear hbx hx1 HE
  cases hg : greatB t
  rotate_left
  · have hr : greatP xs t = true := by unfold greatP; rw [hg]; simp
    have HR := Lib.hid hr
    clear hr hg
    go_wp2_with (fail)
    go_ret
    exact ⟨ret_bool HR.out.symm, HB1.out⟩
  have HGB := Lib.hid hg
  clear hg
  go_wp2_with (fail)
  go_loopw [3] (fun i wr => ∃ j : Nat, j ≤ xs.length ∧ i = .int .i64 j ∧ wr = w1 ∧ Hid (∀ i, i < j → ¬ 100 < (eget xs i).s.size)) (fun i _ => xs.length - (intOf i).toNat)
  case atStart => exact ⟨0, Nat.zero_le _, rfl, rfl, Lib.hid fun i hi => by omega⟩
  case round =>
    obtain ⟨j, hj, rfl, rfl, HJ⟩ := hrel
    by_cases hlt : j < xs.length
    · obtain ⟨b, o, rfl, K, c0, c1, c2⟩ := HE1.out.get j hlt
      by_cases hs : 100 < (eget xs j).s.size
      · have hr := gr_yes (t := t) hlt hs
        have hsi : (100 : Int) < ((eget xs j).s.size : Int) := by omega
        have HR := Lib.hid hr
        clear hr hs
        go_wp2_with (fail)
        go_ret
        exact ⟨ret_bool HR.out.symm, HB1.out⟩
      · have hsi : ¬ (100 : Int) < ((eget xs j).s.size : Int) := by omega
        have hn : ∀ i, i < j + 1 → ¬ 100 < (eget xs i).s.size := fun i hi => by
          rcases Nat.lt_succ_iff_lt_or_eq.1 hi with h | h
          · exact HJ.out i h
          · subst h; exact hs
        have HN := Lib.hid hn
        clear hs hn
        go_wp2_with (fail)
        go_roundw
        case rel => exact ⟨j + 1, by omega, by go_num, by simp, HN⟩
        case measure => simp [intOf]; omega
    · obtain rfl : j = xs.length := by omega
      have hr := gr_no H100.out HGB.out HJ.out
      have HR := Lib.hid hr
      clear hr
      go_wp2_with (fail)
      go_ret
      exact ⟨ret_bool HR.out.symm, HB1.out⟩
end Scope
end Go.Proofs.YtkcadkjpneoobaaDoor
