/- The walk of the document's depth. -/
import Derived.Test.YtpedmaomogigmaaDoorTermLeft
namespace Go.Proofs.YtpedmaomogigmaaDoor
open Go.RowKit
set_option linter.unusedVariables false
namespace Term

mutual
/-- How many nodes stand one in the other. -/
def depT : Tm → Nat
  | .node _ l => depK l + 1
def depK : List Tm → Nat
  | [] => 0
  | t :: ts => max (depT t) (depK ts)
end
theorem depT_eq (t : Tm) : depT t = depK t.ks + 1 := by cases t; unfold depT; rfl
theorem depK_nil : depK [] = 0 := by unfold depK; rfl
theorem depK_cons (t : Tm) (ts : List Tm) : depK (t :: ts) = max (depT t) (depK ts) := by conv => lhs; unfold depK
theorem depK_append : ∀ ts us : List Tm, depK (ts ++ us) = max (depK ts) (depK us)
  | [], us => by rw [depK_nil]; simp
  | t :: ts, us => by rw [List.cons_append, depK_cons, depK_cons, depK_append ts us]; omega
theorem dep_le : ∀ m : Nat, (∀ t, wt t ≤ m → depT t ≤ wt t) ∧ (∀ ts, wts ts ≤ m → depK ts ≤ wts ts) := by
  intro m
  induction m with
  | zero =>
    refine ⟨fun t h => by have := wt_pos t; omega, fun ts h => ?_⟩
    cases ts with
    | nil => rw [depK_nil]; omega
    | cons t ts => rw [wts_cons] at h; have := wt_pos t; omega
  | succ m ih =>
    have hT : ∀ t, wt t ≤ m + 1 → depT t ≤ wt t := by
      intro t h
      have hk := wt_ks t
      have := ih.2 t.ks (by omega)
      rw [depT_eq]
      omega
    refine ⟨hT, fun ts => ?_⟩
    induction ts with
    | nil => intro _; rw [depK_nil]; omega
    | cons t ts ihs =>
      intro h
      rw [wts_cons] at h
      have h1 := hT t (by omega)
      have h2 := ihs (by omega)
      rw [depK_cons, wts_cons]
      omega
theorem take_tget (ts : List Tm) (k : Nat) (h : k < ts.length) : ts.take (k + 1) = ts.take k ++ [tget ts k] := by
  rw [List.take_add_one, tget_at h]; rfl
theorem depK_take (ts : List Tm) (k : Nat) (h : k < ts.length) : depK (ts.take (k + 1)) = max (depK (ts.take k)) (depT (tget ts k)) := by
  rw [take_tget ts k h, depK_append, depK_cons, depK_nil]; omega
theorem wts_take_le : ∀ (ts : List Tm) (k : Nat), wts (ts.take k) ≤ wts ts
  | [], k => by simp
  | t :: ts, 0 => by rw [List.take_zero, wts_nil]; omega
  | t :: ts, k + 1 => by rw [List.take_succ_cons, wts_cons, wts_cons]; have := wts_take_le ts k; omega

set_option maxRecDepth 10000 in
set_option maxHeartbeats 3200000 in
theorem refDepth_walk : ∀ (m : Nat) (t : Tm) (h : Hd) (p : Option Addr) (l c : Nat) (w : World), wt t ≤ m → wt t ≤ 1000000 → TmIs w h p l c t →
    Calls Tryd.prog 14 #[.agg #[.int .u8 h.k, .int .u8 h.op, .int .i64 h.pl, .int .i64 h.n, .string h.name, .string h.arg, .string h.exn, .slice p l c]] w fun e w' => e = .returned (.int .i64 (depT t : Nat)) ∧ Below w.heap.size w w' := by
  intro m
  induction m with
  | zero => intro t h p l c w hm; have := wt_pos t; omega
  | succ m ih =>
    intro t h p l c w hm hsz hT
    have hle := depT_eq t
    have hdl := (dep_le (wts t.ks)).2 t.ks (Nat.le_refl _)
    have hdt := fun k => (dep_le (wts (t.ks.take k))).2 (t.ks.take k) (Nat.le_refl _)
    obtain ⟨k, op, pl, nn, nm, ar, ex⟩ := h
    have hlc : l ≤ 9223372036854775807 := by have := hT.cap; unfold maxLen at this; omega
    have hbox : ∀ O : Obj, Below w.heap.size w (w.alloc O) := fun O => (Below.refl _ _).alloc (Nat.le_refl _) _
    have HBOX := Lib.hid hbox; have IH := Lib.hid ih; have HT := Lib.hid hT; have HM := Lib.hid hm; have HSZ := Lib.hid hsz; have HLE := Lib.hid hle; have HDL := Lib.hid hdl; have HDT := Lib.hid hdt
    clear ih hT hm hbox hsz hle hdl hdt
    go_enter Tryd.func14, Tryd.ntmps14
    go_wp2_with (fail)
    go_loopw [3, 9] (fun N i wr => ∃ j : Nat, j ≤ l ∧ i = .int .i64 j ∧ N = .int .i64 (depK (t.ks.take j) : Nat) ∧
      Below (w.alloc (.cells #[.int .u8 k, .int .u8 op, .int .i64 pl, .int .i64 nn, .string nm, .string ar, .string ex, .slice p l c] 26)).heap.size (w.alloc (.cells #[.int .u8 k, .int .u8 op, .int .i64 pl, .int .i64 nn, .string nm, .string ar, .string ex, .slice p l c] 26)) wr) (fun _ i _ => l - (intOf i).toNat)
    case atStart => exact ⟨0, Nat.zero_le _, rfl, by rw [List.take_zero, depK_nil]; rfl, Below.refl _ _⟩
    case round =>
      obtain ⟨j, hj, rfl, rfl, hw⟩ := hrel
      have HW := Lib.hid hw
      have b7 := boxAt hw 7 rfl
      clear hw
      have HWW := Lib.hid ((HBOX.out _).trans (HW.out.mono (HBOX.out _).size))
      by_cases hlt : j < l
      · have hjk : j < t.ks.length := by rw [HT.out.len]; exact hlt
        have hst := depK_take t.ks j hjk
        obtain ⟨b, o, q, c', rfl, hkid, c0, c1, c2, c3, c4, c5, c6, c7⟩ := (HT.out.kids.stay HWW.out).get j hjk
        have hwk := wts_get hjk
        have hwt := wt_ks t
        have HST := Lib.hid hst; have HK := Lib.hid hkid
        have HWK := Lib.hid hwk; have HWT := Lib.hid hwt
        clear hst hkid hwk hwt hjk
        go_wp2_with (fail)
        refine (IH.out (tget t.ks j) _ q _ c' _ (by have := HM.out; have := HWK.out; have := HWT.out; omega) (by have := HSZ.out; have := HWK.out; have := HWT.out; omega) HK.out).mono ?_
        rintro e w2 ⟨rfl, hb2⟩
        have HW2 := Lib.hid (HW.out.trans (hb2.mono HW.out.size))
        clear hb2 b7 c0 c1 c2 c3 c4 c5 c6 c7
        generalize hX : depT (tget t.ks j) = X at *
        generalize hY : depK (t.ks.take j) = Y at *
        have HX := Lib.hid hX; have HY := Lib.hid hY
        clear hX hY
        by_cases hgt : (Y : Int) < (X : Int)
        · go_wp2
          go_roundw
          case rel => exact ⟨j + 1, by omega, by go_num, by rw [HST.out, Nat.max_eq_right (by omega)], HW2.out⟩
          case measure => simp [intOf]; omega
        · go_wp2
          go_roundw
          case rel => exact ⟨j + 1, by omega, by go_num, by rw [HST.out, Nat.max_eq_left (by omega)], HW2.out⟩
          case measure => simp [intOf]; omega
      · obtain rfl : j = l := by omega
        have hall : t.ks.take j = t.ks := List.take_of_length_le (by rw [HT.out.len]; exact Nat.le_refl _)
        rw [hall]
        have hb1 : ((depK t.ks : Nat) : Int) ≤ 1000000 := by have := HDL.out; have := HSZ.out; have := wt_ks t; omega
        generalize hY : depK t.ks = Y at *
        have HY := Lib.hid hY
        clear hall hY
        go_wp2_with (fail)
        go_ret
        exact ⟨ret_i64 (by rw [HLE.out]; omega), HWW.out⟩
end Term
end Go.Proofs.YtpedmaomogigmaaDoor
