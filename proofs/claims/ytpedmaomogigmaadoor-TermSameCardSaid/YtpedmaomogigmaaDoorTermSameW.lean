/- The walk of layer 4's statement on which terms are the same. -/
import Derived.Test.YtpedmaomogigmaaDoorTermMovW
import Derived.Test.YtpedmaomogigmaaDoorTermAwake
import Derived.Deep.RegionHeld3
namespace Go.Proofs.YtpedmaomogigmaaDoor
open Go.RowKit
set_option linter.unusedVariables false
namespace Term

theorem sameH_comm (a b : Hd) : sameH a b = sameH b a := by
  unfold sameH
  rw [decide_eq_decide]
  constructor <;> (rintro ⟨h1, h2, h3, h4, h5, h6⟩; exact ⟨h1.symm, h2.symm, h3.symm, h4.symm, h5.symm, h6.symm⟩)
theorem sameK_nil2 (ts : List Tm) : sameK ts [] = true := by
  cases ts with
  | nil => exact sameK_nil _
  | cons t ts => unfold sameK; rfl
theorem same_comm : ∀ m : Nat, (∀ t u : Tm, wt t ≤ m → sameT t u = sameT u t) ∧ (∀ ts us : List Tm, wts ts ≤ m → sameK ts us = sameK us ts) := by
  intro m
  induction m with
  | zero =>
    refine ⟨fun t u h => by have := wt_pos t; omega, fun ts us h => ?_⟩
    cases ts with
    | nil => rw [sameK_nil, sameK_nil2]
    | cons t ts => rw [wts_cons] at h; have := wt_pos t; omega
  | succ m ih =>
    have hT : ∀ t u : Tm, wt t ≤ m + 1 → sameT t u = sameT u t := by
      intro t u h
      have hk := wt_ks t
      rw [sameT_eq, sameT_eq, ih.2 t.ks u.ks (by omega), sameH_comm, decide_eq_decide.2 (eq_comm (a := t.ks.length) (b := u.ks.length))]
    refine ⟨hT, fun ts => ?_⟩
    induction ts with
    | nil => intro us _; rw [sameK_nil, sameK_nil2]
    | cons t ts ihs =>
      intro us h
      rw [wts_cons] at h
      cases us with
      | nil => rw [sameK_nil, sameK_nil2]
      | cons u us => rw [sameK_cons, sameK_cons, hT t u (by omega), ihs us (by omega)]

/-- The moved one's end, where the region's facts stand anew. -/
def MovS (SP : World → Prop) (k op at' nn : Int) (nm ar ex : ByteArray) (l : Nat) (t : Tm) (e : Ending) (w' : World) : Prop :=
  ∃ q d, e = .returned (.agg #[.int .u8 k, .int .u8 op, .int .i64 at', .int .i64 nn, .string nm, .string ar, .string ex, .slice q l d]) ∧ TmIs w' ⟨k, op, at', nn, nm, ar, ex⟩ q l d (movT t at') ∧ SP w'

set_option maxRecDepth 100000 in
set_option maxHeartbeats 25600000 in
theorem same_region (k op pl nn k' op' pl' nn' at' : Int) (nm ar ex nm' ar' ex' : ByteArray) (p p' : Option Addr) (l c l' c' : Nat) (t u : Tm) (w : World) (hT : TmIs w ⟨k, op, pl, nn, nm, ar, ex⟩ p l c t) (hU : TmIs w ⟨k', op', pl', nn', nm', ar', ex'⟩ p' l' c' u) (hw : wt t ≤ 400) (h0 : 0 ≤ at') (h1 : at' ≤ 255) (hkw : Words.KwLaid w) :
    (∀ V : World, (V.cell? ⟨w.heap.size, 0, none⟩ = some (.int .u8 k) ∧ V.cell? ⟨w.heap.size, 1, none⟩ = some (.int .u8 op) ∧ V.cell? ⟨w.heap.size, 2, none⟩ = some (.int .i64 pl) ∧ V.cell? ⟨w.heap.size, 3, none⟩ = some (.int .i64 nn) ∧ V.cell? ⟨w.heap.size, 4, none⟩ = some (.string nm) ∧ V.cell? ⟨w.heap.size, 5, none⟩ = some (.string ar) ∧ V.cell? ⟨w.heap.size, 6, none⟩ = some (.string ex) ∧ V.cell? ⟨w.heap.size, 7, none⟩ = some (.slice p l c) ∧ V.cell? ⟨w.heap.size + 1, 0, none⟩ = some (.int .u8 k') ∧ V.cell? ⟨w.heap.size + 1, 1, none⟩ = some (.int .u8 op') ∧ V.cell? ⟨w.heap.size + 1, 2, none⟩ = some (.int .i64 pl') ∧ V.cell? ⟨w.heap.size + 1, 3, none⟩ = some (.int .i64 nn') ∧ V.cell? ⟨w.heap.size + 1, 4, none⟩ = some (.string nm') ∧ V.cell? ⟨w.heap.size + 1, 5, none⟩ = some (.string ar') ∧ V.cell? ⟨w.heap.size + 1, 6, none⟩ = some (.string ex') ∧ V.cell? ⟨w.heap.size + 1, 7, none⟩ = some (.slice p' l' c') ∧ Below w.heap.size w V) → Calls Tryd.prog 19 #[.agg #[.int .u8 k, .int .u8 op, .int .i64 pl, .int .i64 nn, .string nm, .string ar, .string ex, .slice p l c], .agg #[.int .u8 k', .int .u8 op', .int .i64 pl', .int .i64 nn', .string nm', .string ar', .string ex', .slice p' l' c']] V fun e w' => e = .returned (.bool (sameT t u)) ∧ (w'.cell? ⟨w.heap.size, 0, none⟩ = some (.int .u8 k) ∧ w'.cell? ⟨w.heap.size, 1, none⟩ = some (.int .u8 op) ∧ w'.cell? ⟨w.heap.size, 2, none⟩ = some (.int .i64 pl) ∧ w'.cell? ⟨w.heap.size, 3, none⟩ = some (.int .i64 nn) ∧ w'.cell? ⟨w.heap.size, 4, none⟩ = some (.string nm) ∧ w'.cell? ⟨w.heap.size, 5, none⟩ = some (.string ar) ∧ w'.cell? ⟨w.heap.size, 6, none⟩ = some (.string ex) ∧ w'.cell? ⟨w.heap.size, 7, none⟩ = some (.slice p l c) ∧ w'.cell? ⟨w.heap.size + 1, 0, none⟩ = some (.int .u8 k') ∧ w'.cell? ⟨w.heap.size + 1, 1, none⟩ = some (.int .u8 op') ∧ w'.cell? ⟨w.heap.size + 1, 2, none⟩ = some (.int .i64 pl') ∧ w'.cell? ⟨w.heap.size + 1, 3, none⟩ = some (.int .i64 nn') ∧ w'.cell? ⟨w.heap.size + 1, 4, none⟩ = some (.string nm') ∧ w'.cell? ⟨w.heap.size + 1, 5, none⟩ = some (.string ar') ∧ w'.cell? ⟨w.heap.size + 1, 6, none⟩ = some (.string ex') ∧ w'.cell? ⟨w.heap.size + 1, 7, none⟩ = some (.slice p' l' c') ∧ Below w.heap.size w w')) ∧
    (∀ V : World, (V.cell? ⟨w.heap.size, 0, none⟩ = some (.int .u8 k) ∧ V.cell? ⟨w.heap.size, 1, none⟩ = some (.int .u8 op) ∧ V.cell? ⟨w.heap.size, 2, none⟩ = some (.int .i64 pl) ∧ V.cell? ⟨w.heap.size, 3, none⟩ = some (.int .i64 nn) ∧ V.cell? ⟨w.heap.size, 4, none⟩ = some (.string nm) ∧ V.cell? ⟨w.heap.size, 5, none⟩ = some (.string ar) ∧ V.cell? ⟨w.heap.size, 6, none⟩ = some (.string ex) ∧ V.cell? ⟨w.heap.size, 7, none⟩ = some (.slice p l c) ∧ V.cell? ⟨w.heap.size + 1, 0, none⟩ = some (.int .u8 k') ∧ V.cell? ⟨w.heap.size + 1, 1, none⟩ = some (.int .u8 op') ∧ V.cell? ⟨w.heap.size + 1, 2, none⟩ = some (.int .i64 pl') ∧ V.cell? ⟨w.heap.size + 1, 3, none⟩ = some (.int .i64 nn') ∧ V.cell? ⟨w.heap.size + 1, 4, none⟩ = some (.string nm') ∧ V.cell? ⟨w.heap.size + 1, 5, none⟩ = some (.string ar') ∧ V.cell? ⟨w.heap.size + 1, 6, none⟩ = some (.string ex') ∧ V.cell? ⟨w.heap.size + 1, 7, none⟩ = some (.slice p' l' c') ∧ Below w.heap.size w V) → Calls Tryd.prog 20 #[.agg #[.int .u8 k, .int .u8 op, .int .i64 pl, .int .i64 nn, .string nm, .string ar, .string ex, .slice p l c], .agg #[.int .u8 k', .int .u8 op', .int .i64 pl', .int .i64 nn', .string nm', .string ar', .string ex', .slice p' l' c']] V fun e w' => e = .returned (.bool (sameT t u)) ∧ (w'.cell? ⟨w.heap.size, 0, none⟩ = some (.int .u8 k) ∧ w'.cell? ⟨w.heap.size, 1, none⟩ = some (.int .u8 op) ∧ w'.cell? ⟨w.heap.size, 2, none⟩ = some (.int .i64 pl) ∧ w'.cell? ⟨w.heap.size, 3, none⟩ = some (.int .i64 nn) ∧ w'.cell? ⟨w.heap.size, 4, none⟩ = some (.string nm) ∧ w'.cell? ⟨w.heap.size, 5, none⟩ = some (.string ar) ∧ w'.cell? ⟨w.heap.size, 6, none⟩ = some (.string ex) ∧ w'.cell? ⟨w.heap.size, 7, none⟩ = some (.slice p l c) ∧ w'.cell? ⟨w.heap.size + 1, 0, none⟩ = some (.int .u8 k') ∧ w'.cell? ⟨w.heap.size + 1, 1, none⟩ = some (.int .u8 op') ∧ w'.cell? ⟨w.heap.size + 1, 2, none⟩ = some (.int .i64 pl') ∧ w'.cell? ⟨w.heap.size + 1, 3, none⟩ = some (.int .i64 nn') ∧ w'.cell? ⟨w.heap.size + 1, 4, none⟩ = some (.string nm') ∧ w'.cell? ⟨w.heap.size + 1, 5, none⟩ = some (.string ar') ∧ w'.cell? ⟨w.heap.size + 1, 6, none⟩ = some (.string ex') ∧ w'.cell? ⟨w.heap.size + 1, 7, none⟩ = some (.slice p' l' c') ∧ Below w.heap.size w w')) ∧
    (∀ V : World, (V.cell? ⟨w.heap.size, 0, none⟩ = some (.int .u8 k) ∧ V.cell? ⟨w.heap.size, 1, none⟩ = some (.int .u8 op) ∧ V.cell? ⟨w.heap.size, 2, none⟩ = some (.int .i64 pl) ∧ V.cell? ⟨w.heap.size, 3, none⟩ = some (.int .i64 nn) ∧ V.cell? ⟨w.heap.size, 4, none⟩ = some (.string nm) ∧ V.cell? ⟨w.heap.size, 5, none⟩ = some (.string ar) ∧ V.cell? ⟨w.heap.size, 6, none⟩ = some (.string ex) ∧ V.cell? ⟨w.heap.size, 7, none⟩ = some (.slice p l c) ∧ V.cell? ⟨w.heap.size + 1, 0, none⟩ = some (.int .u8 k') ∧ V.cell? ⟨w.heap.size + 1, 1, none⟩ = some (.int .u8 op') ∧ V.cell? ⟨w.heap.size + 1, 2, none⟩ = some (.int .i64 pl') ∧ V.cell? ⟨w.heap.size + 1, 3, none⟩ = some (.int .i64 nn') ∧ V.cell? ⟨w.heap.size + 1, 4, none⟩ = some (.string nm') ∧ V.cell? ⟨w.heap.size + 1, 5, none⟩ = some (.string ar') ∧ V.cell? ⟨w.heap.size + 1, 6, none⟩ = some (.string ex') ∧ V.cell? ⟨w.heap.size + 1, 7, none⟩ = some (.slice p' l' c') ∧ Below w.heap.size w V) → Calls Tryd.prog 19 #[.agg #[.int .u8 k', .int .u8 op', .int .i64 pl', .int .i64 nn', .string nm', .string ar', .string ex', .slice p' l' c'], .agg #[.int .u8 k, .int .u8 op, .int .i64 pl, .int .i64 nn, .string nm, .string ar, .string ex, .slice p l c]] V fun e w' => e = .returned (.bool (sameT t u)) ∧ (w'.cell? ⟨w.heap.size, 0, none⟩ = some (.int .u8 k) ∧ w'.cell? ⟨w.heap.size, 1, none⟩ = some (.int .u8 op) ∧ w'.cell? ⟨w.heap.size, 2, none⟩ = some (.int .i64 pl) ∧ w'.cell? ⟨w.heap.size, 3, none⟩ = some (.int .i64 nn) ∧ w'.cell? ⟨w.heap.size, 4, none⟩ = some (.string nm) ∧ w'.cell? ⟨w.heap.size, 5, none⟩ = some (.string ar) ∧ w'.cell? ⟨w.heap.size, 6, none⟩ = some (.string ex) ∧ w'.cell? ⟨w.heap.size, 7, none⟩ = some (.slice p l c) ∧ w'.cell? ⟨w.heap.size + 1, 0, none⟩ = some (.int .u8 k') ∧ w'.cell? ⟨w.heap.size + 1, 1, none⟩ = some (.int .u8 op') ∧ w'.cell? ⟨w.heap.size + 1, 2, none⟩ = some (.int .i64 pl') ∧ w'.cell? ⟨w.heap.size + 1, 3, none⟩ = some (.int .i64 nn') ∧ w'.cell? ⟨w.heap.size + 1, 4, none⟩ = some (.string nm') ∧ w'.cell? ⟨w.heap.size + 1, 5, none⟩ = some (.string ar') ∧ w'.cell? ⟨w.heap.size + 1, 6, none⟩ = some (.string ex') ∧ w'.cell? ⟨w.heap.size + 1, 7, none⟩ = some (.slice p' l' c') ∧ Below w.heap.size w w')) ∧
    (∀ V : World, (V.cell? ⟨w.heap.size, 0, none⟩ = some (.int .u8 k) ∧ V.cell? ⟨w.heap.size, 1, none⟩ = some (.int .u8 op) ∧ V.cell? ⟨w.heap.size, 2, none⟩ = some (.int .i64 pl) ∧ V.cell? ⟨w.heap.size, 3, none⟩ = some (.int .i64 nn) ∧ V.cell? ⟨w.heap.size, 4, none⟩ = some (.string nm) ∧ V.cell? ⟨w.heap.size, 5, none⟩ = some (.string ar) ∧ V.cell? ⟨w.heap.size, 6, none⟩ = some (.string ex) ∧ V.cell? ⟨w.heap.size, 7, none⟩ = some (.slice p l c) ∧ V.cell? ⟨w.heap.size + 1, 0, none⟩ = some (.int .u8 k') ∧ V.cell? ⟨w.heap.size + 1, 1, none⟩ = some (.int .u8 op') ∧ V.cell? ⟨w.heap.size + 1, 2, none⟩ = some (.int .i64 pl') ∧ V.cell? ⟨w.heap.size + 1, 3, none⟩ = some (.int .i64 nn') ∧ V.cell? ⟨w.heap.size + 1, 4, none⟩ = some (.string nm') ∧ V.cell? ⟨w.heap.size + 1, 5, none⟩ = some (.string ar') ∧ V.cell? ⟨w.heap.size + 1, 6, none⟩ = some (.string ex') ∧ V.cell? ⟨w.heap.size + 1, 7, none⟩ = some (.slice p' l' c') ∧ Below w.heap.size w V) → Calls Tryd.prog 21 #[.agg #[.int .u8 k, .int .u8 op, .int .i64 pl, .int .i64 nn, .string nm, .string ar, .string ex, .slice p l c], .int .i64 at'] V (MovS (fun W => (W.cell? ⟨w.heap.size, 0, none⟩ = some (.int .u8 k) ∧ W.cell? ⟨w.heap.size, 1, none⟩ = some (.int .u8 op) ∧ W.cell? ⟨w.heap.size, 2, none⟩ = some (.int .i64 pl) ∧ W.cell? ⟨w.heap.size, 3, none⟩ = some (.int .i64 nn) ∧ W.cell? ⟨w.heap.size, 4, none⟩ = some (.string nm) ∧ W.cell? ⟨w.heap.size, 5, none⟩ = some (.string ar) ∧ W.cell? ⟨w.heap.size, 6, none⟩ = some (.string ex) ∧ W.cell? ⟨w.heap.size, 7, none⟩ = some (.slice p l c) ∧ W.cell? ⟨w.heap.size + 1, 0, none⟩ = some (.int .u8 k') ∧ W.cell? ⟨w.heap.size + 1, 1, none⟩ = some (.int .u8 op') ∧ W.cell? ⟨w.heap.size + 1, 2, none⟩ = some (.int .i64 pl') ∧ W.cell? ⟨w.heap.size + 1, 3, none⟩ = some (.int .i64 nn') ∧ W.cell? ⟨w.heap.size + 1, 4, none⟩ = some (.string nm') ∧ W.cell? ⟨w.heap.size + 1, 5, none⟩ = some (.string ar') ∧ W.cell? ⟨w.heap.size + 1, 6, none⟩ = some (.string ex') ∧ W.cell? ⟨w.heap.size + 1, 7, none⟩ = some (.slice p' l' c') ∧ Below w.heap.size w W)) k op at' nn nm ar ex l t)) ∧
    (∀ (V : World) (q : Option Addr) (d : Nat), (V.cell? ⟨w.heap.size, 0, none⟩ = some (.int .u8 k) ∧ V.cell? ⟨w.heap.size, 1, none⟩ = some (.int .u8 op) ∧ V.cell? ⟨w.heap.size, 2, none⟩ = some (.int .i64 pl) ∧ V.cell? ⟨w.heap.size, 3, none⟩ = some (.int .i64 nn) ∧ V.cell? ⟨w.heap.size, 4, none⟩ = some (.string nm) ∧ V.cell? ⟨w.heap.size, 5, none⟩ = some (.string ar) ∧ V.cell? ⟨w.heap.size, 6, none⟩ = some (.string ex) ∧ V.cell? ⟨w.heap.size, 7, none⟩ = some (.slice p l c) ∧ V.cell? ⟨w.heap.size + 1, 0, none⟩ = some (.int .u8 k') ∧ V.cell? ⟨w.heap.size + 1, 1, none⟩ = some (.int .u8 op') ∧ V.cell? ⟨w.heap.size + 1, 2, none⟩ = some (.int .i64 pl') ∧ V.cell? ⟨w.heap.size + 1, 3, none⟩ = some (.int .i64 nn') ∧ V.cell? ⟨w.heap.size + 1, 4, none⟩ = some (.string nm') ∧ V.cell? ⟨w.heap.size + 1, 5, none⟩ = some (.string ar') ∧ V.cell? ⟨w.heap.size + 1, 6, none⟩ = some (.string ex') ∧ V.cell? ⟨w.heap.size + 1, 7, none⟩ = some (.slice p' l' c') ∧ Below w.heap.size w V) → TmIs V ⟨k, op, at', nn, nm, ar, ex⟩ q l d (movT t at') → Calls Tryd.prog 19 #[.agg #[.int .u8 k, .int .u8 op, .int .i64 pl, .int .i64 nn, .string nm, .string ar, .string ex, .slice p l c], .agg #[.int .u8 k, .int .u8 op, .int .i64 at', .int .i64 nn, .string nm, .string ar, .string ex, .slice q l d]] V fun e w' => e = .returned (.bool true) ∧ (w'.cell? ⟨w.heap.size, 0, none⟩ = some (.int .u8 k) ∧ w'.cell? ⟨w.heap.size, 1, none⟩ = some (.int .u8 op) ∧ w'.cell? ⟨w.heap.size, 2, none⟩ = some (.int .i64 pl) ∧ w'.cell? ⟨w.heap.size, 3, none⟩ = some (.int .i64 nn) ∧ w'.cell? ⟨w.heap.size, 4, none⟩ = some (.string nm) ∧ w'.cell? ⟨w.heap.size, 5, none⟩ = some (.string ar) ∧ w'.cell? ⟨w.heap.size, 6, none⟩ = some (.string ex) ∧ w'.cell? ⟨w.heap.size, 7, none⟩ = some (.slice p l c) ∧ w'.cell? ⟨w.heap.size + 1, 0, none⟩ = some (.int .u8 k') ∧ w'.cell? ⟨w.heap.size + 1, 1, none⟩ = some (.int .u8 op') ∧ w'.cell? ⟨w.heap.size + 1, 2, none⟩ = some (.int .i64 pl') ∧ w'.cell? ⟨w.heap.size + 1, 3, none⟩ = some (.int .i64 nn') ∧ w'.cell? ⟨w.heap.size + 1, 4, none⟩ = some (.string nm') ∧ w'.cell? ⟨w.heap.size + 1, 5, none⟩ = some (.string ar') ∧ w'.cell? ⟨w.heap.size + 1, 6, none⟩ = some (.string ex') ∧ w'.cell? ⟨w.heap.size + 1, 7, none⟩ = some (.slice p' l' c') ∧ Below w.heap.size w w')) ∧
    (∀ V : World, (V.cell? ⟨w.heap.size, 0, none⟩ = some (.int .u8 k) ∧ V.cell? ⟨w.heap.size, 1, none⟩ = some (.int .u8 op) ∧ V.cell? ⟨w.heap.size, 2, none⟩ = some (.int .i64 pl) ∧ V.cell? ⟨w.heap.size, 3, none⟩ = some (.int .i64 nn) ∧ V.cell? ⟨w.heap.size, 4, none⟩ = some (.string nm) ∧ V.cell? ⟨w.heap.size, 5, none⟩ = some (.string ar) ∧ V.cell? ⟨w.heap.size, 6, none⟩ = some (.string ex) ∧ V.cell? ⟨w.heap.size, 7, none⟩ = some (.slice p l c) ∧ V.cell? ⟨w.heap.size + 1, 0, none⟩ = some (.int .u8 k') ∧ V.cell? ⟨w.heap.size + 1, 1, none⟩ = some (.int .u8 op') ∧ V.cell? ⟨w.heap.size + 1, 2, none⟩ = some (.int .i64 pl') ∧ V.cell? ⟨w.heap.size + 1, 3, none⟩ = some (.int .i64 nn') ∧ V.cell? ⟨w.heap.size + 1, 4, none⟩ = some (.string nm') ∧ V.cell? ⟨w.heap.size + 1, 5, none⟩ = some (.string ar') ∧ V.cell? ⟨w.heap.size + 1, 6, none⟩ = some (.string ex') ∧ V.cell? ⟨w.heap.size + 1, 7, none⟩ = some (.slice p' l' c') ∧ Below w.heap.size w V) → Calls Tryd.prog 9 #[] V fun e w' => e = .returned (.bool true) ∧ (w'.cell? ⟨w.heap.size, 0, none⟩ = some (.int .u8 k) ∧ w'.cell? ⟨w.heap.size, 1, none⟩ = some (.int .u8 op) ∧ w'.cell? ⟨w.heap.size, 2, none⟩ = some (.int .i64 pl) ∧ w'.cell? ⟨w.heap.size, 3, none⟩ = some (.int .i64 nn) ∧ w'.cell? ⟨w.heap.size, 4, none⟩ = some (.string nm) ∧ w'.cell? ⟨w.heap.size, 5, none⟩ = some (.string ar) ∧ w'.cell? ⟨w.heap.size, 6, none⟩ = some (.string ex) ∧ w'.cell? ⟨w.heap.size, 7, none⟩ = some (.slice p l c) ∧ w'.cell? ⟨w.heap.size + 1, 0, none⟩ = some (.int .u8 k') ∧ w'.cell? ⟨w.heap.size + 1, 1, none⟩ = some (.int .u8 op') ∧ w'.cell? ⟨w.heap.size + 1, 2, none⟩ = some (.int .i64 pl') ∧ w'.cell? ⟨w.heap.size + 1, 3, none⟩ = some (.int .i64 nn') ∧ w'.cell? ⟨w.heap.size + 1, 4, none⟩ = some (.string nm') ∧ w'.cell? ⟨w.heap.size + 1, 5, none⟩ = some (.string ar') ∧ w'.cell? ⟨w.heap.size + 1, 6, none⟩ = some (.string ex') ∧ w'.cell? ⟨w.heap.size + 1, 7, none⟩ = some (.slice p' l' c') ∧ Below w.heap.size w w')) := by
  have hkeep : ∀ V W' : World, (V.cell? ⟨w.heap.size, 0, none⟩ = some (.int .u8 k) ∧ V.cell? ⟨w.heap.size, 1, none⟩ = some (.int .u8 op) ∧ V.cell? ⟨w.heap.size, 2, none⟩ = some (.int .i64 pl) ∧ V.cell? ⟨w.heap.size, 3, none⟩ = some (.int .i64 nn) ∧ V.cell? ⟨w.heap.size, 4, none⟩ = some (.string nm) ∧ V.cell? ⟨w.heap.size, 5, none⟩ = some (.string ar) ∧ V.cell? ⟨w.heap.size, 6, none⟩ = some (.string ex) ∧ V.cell? ⟨w.heap.size, 7, none⟩ = some (.slice p l c) ∧ V.cell? ⟨w.heap.size + 1, 0, none⟩ = some (.int .u8 k') ∧ V.cell? ⟨w.heap.size + 1, 1, none⟩ = some (.int .u8 op') ∧ V.cell? ⟨w.heap.size + 1, 2, none⟩ = some (.int .i64 pl') ∧ V.cell? ⟨w.heap.size + 1, 3, none⟩ = some (.int .i64 nn') ∧ V.cell? ⟨w.heap.size + 1, 4, none⟩ = some (.string nm') ∧ V.cell? ⟨w.heap.size + 1, 5, none⟩ = some (.string ar') ∧ V.cell? ⟨w.heap.size + 1, 6, none⟩ = some (.string ex') ∧ V.cell? ⟨w.heap.size + 1, 7, none⟩ = some (.slice p' l' c') ∧ Below w.heap.size w V) → Below V.heap.size V W' → (W'.cell? ⟨w.heap.size, 0, none⟩ = some (.int .u8 k) ∧ W'.cell? ⟨w.heap.size, 1, none⟩ = some (.int .u8 op) ∧ W'.cell? ⟨w.heap.size, 2, none⟩ = some (.int .i64 pl) ∧ W'.cell? ⟨w.heap.size, 3, none⟩ = some (.int .i64 nn) ∧ W'.cell? ⟨w.heap.size, 4, none⟩ = some (.string nm) ∧ W'.cell? ⟨w.heap.size, 5, none⟩ = some (.string ar) ∧ W'.cell? ⟨w.heap.size, 6, none⟩ = some (.string ex) ∧ W'.cell? ⟨w.heap.size, 7, none⟩ = some (.slice p l c) ∧ W'.cell? ⟨w.heap.size + 1, 0, none⟩ = some (.int .u8 k') ∧ W'.cell? ⟨w.heap.size + 1, 1, none⟩ = some (.int .u8 op') ∧ W'.cell? ⟨w.heap.size + 1, 2, none⟩ = some (.int .i64 pl') ∧ W'.cell? ⟨w.heap.size + 1, 3, none⟩ = some (.int .i64 nn') ∧ W'.cell? ⟨w.heap.size + 1, 4, none⟩ = some (.string nm') ∧ W'.cell? ⟨w.heap.size + 1, 5, none⟩ = some (.string ar') ∧ W'.cell? ⟨w.heap.size + 1, 6, none⟩ = some (.string ex') ∧ W'.cell? ⟨w.heap.size + 1, 7, none⟩ = some (.slice p' l' c') ∧ Below w.heap.size w W') := fun V W' h hb => by
    obtain ⟨a0, a1, a2, a3, a4, a5, a6, a7, b0, b1, b2, b3, b4, b5, b6, b7, a9⟩ := h
    have hr := Reads.of_below hb
    exact ⟨hr _ _ a0, hr _ _ a1, hr _ _ a2, hr _ _ a3, hr _ _ a4, hr _ _ a5, hr _ _ a6, hr _ _ a7, hr _ _ b0, hr _ _ b1, hr _ _ b2, hr _ _ b3, hr _ _ b4, hr _ _ b5, hr _ _ b6, hr _ _ b7, below_then a9 hb a9.size⟩
  have hB : ∀ V : World, (V.cell? ⟨w.heap.size, 0, none⟩ = some (.int .u8 k) ∧ V.cell? ⟨w.heap.size, 1, none⟩ = some (.int .u8 op) ∧ V.cell? ⟨w.heap.size, 2, none⟩ = some (.int .i64 pl) ∧ V.cell? ⟨w.heap.size, 3, none⟩ = some (.int .i64 nn) ∧ V.cell? ⟨w.heap.size, 4, none⟩ = some (.string nm) ∧ V.cell? ⟨w.heap.size, 5, none⟩ = some (.string ar) ∧ V.cell? ⟨w.heap.size, 6, none⟩ = some (.string ex) ∧ V.cell? ⟨w.heap.size, 7, none⟩ = some (.slice p l c) ∧ V.cell? ⟨w.heap.size + 1, 0, none⟩ = some (.int .u8 k') ∧ V.cell? ⟨w.heap.size + 1, 1, none⟩ = some (.int .u8 op') ∧ V.cell? ⟨w.heap.size + 1, 2, none⟩ = some (.int .i64 pl') ∧ V.cell? ⟨w.heap.size + 1, 3, none⟩ = some (.int .i64 nn') ∧ V.cell? ⟨w.heap.size + 1, 4, none⟩ = some (.string nm') ∧ V.cell? ⟨w.heap.size + 1, 5, none⟩ = some (.string ar') ∧ V.cell? ⟨w.heap.size + 1, 6, none⟩ = some (.string ex') ∧ V.cell? ⟨w.heap.size + 1, 7, none⟩ = some (.slice p' l' c') ∧ Below w.heap.size w V) → Below w.heap.size w V := fun V h => h.2.2.2.2.2.2.2.2.2.2.2.2.2.2.2.2
  refine ⟨fun V h => ?_, fun V h => ?_, fun V h => ?_, fun V h => ?_, fun V q d h hM => ?_, fun V h => ?_⟩
  · exact (same_walk (wt t) t u _ _ p p' l c l' c' V (Nat.le_refl _) (hT.below (hB V h)) (hU.below (hB V h))).mono fun e w' ⟨he, hb⟩ => ⟨he, hkeep V w' h hb⟩
  · exact (refSame_walk (wt t) t u _ _ p p' l c l' c' V (Nat.le_refl _) (hT.below (hB V h)) (hU.below (hB V h))).mono fun e w' ⟨he, hb⟩ => ⟨he, hkeep V w' h hb⟩
  · refine (same_walk (wt u) u t _ _ p' p l' c' l c V (Nat.le_refl _) (hU.below (hB V h)) (hT.below (hB V h))).mono fun e w' ⟨he, hb⟩ => ⟨?_, hkeep V w' h hb⟩
    rw [he, (same_comm (wt t)).1 t u (Nat.le_refl _)]
  · refine (moved_walk (wt t) t _ p l c at' V (Nat.le_refl _) h0 (by omega) (hT.below (hB V h))).mono ?_
    rintro e w' ⟨q, d, he, hM, hb⟩
    exact ⟨q, d, he, hM.reads' (veil_reads _ _), hkeep V w' h hb⟩
  · refine (same_walk (wt t) t (movT t at') _ _ p q l c l d V (Nat.le_refl _) (hT.below (hB V h)) hM).mono fun e w' ⟨he, hb⟩ => ⟨?_, hkeep V w' h hb⟩
    rw [he, (same_mov (wt t)).1 t at' (Nat.le_refl _)]
  · exact (awake_walk V (hkw.below (hB V h))).mono fun e w' ⟨he, hb⟩ => ⟨he, hkeep V w' h hb⟩

set_option maxRecDepth 100000 in
set_option maxHeartbeats 25600000 in
theorem termSame_walk (h : Hd) (p : Option Addr) (l c : Nat) (t : Tm) (h' : Hd) (p' : Option Addr) (l' c' : Nat) (u : Tm) (at' : Int) (w : World) (hT : TmIs w h p l c t) (hU : TmIs w h' p' l' c' u) (ha0 : 0 ≤ at') (ha1 : at' ≤ 255) (hkw : Words.KwLaid w) :
    Calls Tryd.prog 5 #[.agg #[.int .u8 h.k, .int .u8 h.op, .int .i64 h.pl, .int .i64 h.n, .string h.name, .string h.arg, .string h.exn, .slice p l c], .agg #[.int .u8 h'.k, .int .u8 h'.op, .int .i64 h'.pl, .int .i64 h'.n, .string h'.name, .string h'.arg, .string h'.exn, .slice p' l' c'], .int .u8 at'] w fun e w' => e = .returned (.bool true) ∧ Below w.heap.size w w' := by
  have hbox : ∀ O O' : Obj, Below w.heap.size w ((w.alloc O).alloc O') := fun O O' => ((Below.refl _ _).alloc (Nat.le_refl _) O).alloc (by simp) O'
  have hga := fun W (hb : Below w.heap.size w W) => great_walk t h p l c W (hT.below hb)
  have hgb := fun W (hb : Below w.heap.size w W) => great_walk u h' p' l' c' W (hU.below hb)
  obtain ⟨k, op, pl, nn, nm, ar, ex⟩ := h
  obtain ⟨k', op', pl', nn', nm', ar', ex'⟩ := h'
  have HBOX := Lib.hid hbox; have HKW := Lib.hid hkw
  cases hgr : greatB t
  case true =>
    rw [hgr] at hga
    have HGA := Lib.hid hga
    clear hbox hga hgb hT hU hgr hkw
    go_enter Tryd.func5, Tryd.ntmps5
    go_wp2_with (fail)
    refine (HGA.out _ (HBOX.out _ _)).mono ?_
    rintro e w1 ⟨rfl, hb1⟩
    have HB1 := Lib.hid (below_then (HBOX.out _ _) hb1 (HBOX.out _ _).size); clear hb1
    go_wp2_with (fail)
    refine (awake_walk _ (HKW.out.below HB1.out)).mono ?_
    rintro e w2 ⟨rfl, hb2⟩
    have HB2 := Lib.hid (below_then HB1.out hb2 HB1.out.size); clear hb2
    go_wp2
    go_ret
    exact ⟨rfl, HB2.out⟩
  have hsm := (small_of hgr).1
  rw [hgr] at hga
  have HGA := Lib.hid hga
  have hreg := same_region k op pl nn k' op' pl' nn' at' nm ar ex nm' ar' ex' p p' l c l' c' t u w hT hU hsm ha0 ha1 hkw
  clear hga hT hU hgr hkw hbox hsm
  have hbx : ∀ W, Below ((w.alloc (.cells #[.int .u8 k, .int .u8 op, .int .i64 pl, .int .i64 nn, .string nm, .string ar, .string ex, .slice p l c] 26)).alloc (.cells #[.int .u8 k', .int .u8 op', .int .i64 pl', .int .i64 nn', .string nm', .string ar', .string ex', .slice p' l' c'] 26)).heap.size ((w.alloc (.cells #[.int .u8 k, .int .u8 op, .int .i64 pl, .int .i64 nn, .string nm, .string ar, .string ex, .slice p l c] 26)).alloc (.cells #[.int .u8 k', .int .u8 op', .int .i64 pl', .int .i64 nn', .string nm', .string ar', .string ex', .slice p' l' c'] 26)) W → (W.cell? ⟨w.heap.size, 0, none⟩ = some (.int .u8 k) ∧ W.cell? ⟨w.heap.size, 1, none⟩ = some (.int .u8 op) ∧ W.cell? ⟨w.heap.size, 2, none⟩ = some (.int .i64 pl) ∧ W.cell? ⟨w.heap.size, 3, none⟩ = some (.int .i64 nn) ∧ W.cell? ⟨w.heap.size, 4, none⟩ = some (.string nm) ∧ W.cell? ⟨w.heap.size, 5, none⟩ = some (.string ar) ∧ W.cell? ⟨w.heap.size, 6, none⟩ = some (.string ex) ∧ W.cell? ⟨w.heap.size, 7, none⟩ = some (.slice p l c) ∧ W.cell? ⟨w.heap.size + 1, 0, none⟩ = some (.int .u8 k') ∧ W.cell? ⟨w.heap.size + 1, 1, none⟩ = some (.int .u8 op') ∧ W.cell? ⟨w.heap.size + 1, 2, none⟩ = some (.int .i64 pl') ∧ W.cell? ⟨w.heap.size + 1, 3, none⟩ = some (.int .i64 nn') ∧ W.cell? ⟨w.heap.size + 1, 4, none⟩ = some (.string nm') ∧ W.cell? ⟨w.heap.size + 1, 5, none⟩ = some (.string ar') ∧ W.cell? ⟨w.heap.size + 1, 6, none⟩ = some (.string ex') ∧ W.cell? ⟨w.heap.size + 1, 7, none⟩ = some (.slice p' l' c') ∧ Below w.heap.size w W) := fun W hb => by
    have hb0 : Below (w.alloc (.cells #[.int .u8 k, .int .u8 op, .int .i64 pl, .int .i64 nn, .string nm, .string ar, .string ex, .slice p l c] 26)).heap.size (w.alloc (.cells #[.int .u8 k, .int .u8 op, .int .i64 pl, .int .i64 nn, .string nm, .string ar, .string ex, .slice p l c] 26)) W := ((Below.refl _ _).alloc (Nat.le_refl _) (.cells #[.int .u8 k', .int .u8 op', .int .i64 pl', .int .i64 nn', .string nm', .string ar', .string ex', .slice p' l' c'] 26)).trans (hb.mono (by simp))
    obtain ⟨a0, a1, a2, a3, a4, a5, a6, a7⟩ := box8 (N := w.heap.size) rfl hb0
    obtain ⟨b0, b1, b2, b3, b4, b5, b6, b7⟩ := box8 (N := w.heap.size + 1) (by simp) hb
    exact ⟨a0, a1, a2, a3, a4, a5, a6, a7, b0, b1, b2, b3, b4, b5, b6, b7, (HBOX.out _ _).trans (hb.mono (HBOX.out _ _).size)⟩
  have HBX := Lib.hid hbx
  clear hbx
  cases hgr : greatB u
  case true =>
    rw [hgr] at hgb
    have HGB := Lib.hid hgb
    clear hgb hgr hreg
    go_enter Tryd.func5, Tryd.ntmps5
    go_wp2_with (fail)
    refine (HGA.out _ (HBOX.out _ _)).mono ?_
    rintro e w1 ⟨rfl, hb1⟩
    obtain ⟨a0, a1, a2, a3, a4, a5, a6, a7, b0, b1, b2, b3, b4, b5, b6, b7, a9⟩ := HBX.out w1 hb1
    have HB1 := Lib.hid a9; clear hb1 a9
    go_wp2_with (fail)
    refine (HGB.out _ HB1.out).mono ?_
    rintro e w2 ⟨rfl, hb2⟩
    have HB2 := Lib.hid (below_then HB1.out hb2 HB1.out.size); clear hb2 a0 a1 a2 a3 a4 a5 a6 a7 b0 b1 b2 b3 b4 b5 b6 b7
    go_wp2_with (fail)
    refine (awake_walk _ (HKW.out.below HB2.out)).mono ?_
    rintro e w3 ⟨rfl, hb3⟩
    have HB3 := Lib.hid (below_then HB2.out hb3 HB2.out.size); clear hb3
    go_wp2
    go_ret
    exact ⟨rfl, HB3.out⟩
  rw [hgr] at hgb
  have HGB := Lib.hid hgb
  clear hgb hgr
  obtain ⟨h1, h2, h3, h4, h5, h6⟩ := hreg
  generalize sameT t u = J at *
  have H1 := Lib.hid h1; have H2 := Lib.hid h2; have H3 := Lib.hid h3; have H4 := Lib.hid h4; have H5 := Lib.hid h5; have H6 := Lib.hid h6
  clear h1 h2 h3 h4 h5 h6
  go_enter Tryd.func5, Tryd.ntmps5
  go_wp2_with (fail)
  refine (HGA.out _ (HBOX.out _ _)).mono ?_
  rintro e w1 ⟨rfl, hb1⟩
  obtain ⟨a0, a1, a2, a3, a4, a5, a6, a7, b0, b1, b2, b3, b4, b5, b6, b7, a9⟩ := HBX.out w1 hb1
  have HB1 := Lib.hid hb1; have HA9 := Lib.hid a9; clear hb1 a9
  go_wp2_with (fail)
  refine (HGB.out _ HA9.out).mono ?_
  rintro e w2 ⟨rfl, hb2⟩
  have hS2 := HBX.out w2 (below_then HB1.out hb2 HB1.out.size)
  have HS2 := Lib.hid hS2
  clear hb2 a0 a1 a2 a3 a4 a5 a6 a7 b0 b1 b2 b3 b4 b5 b6 b7 hS2
  go_wp2_with (fail)
  have hS0 : (w2.drew.cell? ⟨w.heap.size, 0, none⟩ = some (.int .u8 k) ∧ w2.drew.cell? ⟨w.heap.size, 1, none⟩ = some (.int .u8 op) ∧ w2.drew.cell? ⟨w.heap.size, 2, none⟩ = some (.int .i64 pl) ∧ w2.drew.cell? ⟨w.heap.size, 3, none⟩ = some (.int .i64 nn) ∧ w2.drew.cell? ⟨w.heap.size, 4, none⟩ = some (.string nm) ∧ w2.drew.cell? ⟨w.heap.size, 5, none⟩ = some (.string ar) ∧ w2.drew.cell? ⟨w.heap.size, 6, none⟩ = some (.string ex) ∧ w2.drew.cell? ⟨w.heap.size, 7, none⟩ = some (.slice p l c) ∧ w2.drew.cell? ⟨w.heap.size + 1, 0, none⟩ = some (.int .u8 k') ∧ w2.drew.cell? ⟨w.heap.size + 1, 1, none⟩ = some (.int .u8 op') ∧ w2.drew.cell? ⟨w.heap.size + 1, 2, none⟩ = some (.int .i64 pl') ∧ w2.drew.cell? ⟨w.heap.size + 1, 3, none⟩ = some (.int .i64 nn') ∧ w2.drew.cell? ⟨w.heap.size + 1, 4, none⟩ = some (.string nm') ∧ w2.drew.cell? ⟨w.heap.size + 1, 5, none⟩ = some (.string ar') ∧ w2.drew.cell? ⟨w.heap.size + 1, 6, none⟩ = some (.string ex') ∧ w2.drew.cell? ⟨w.heap.size + 1, 7, none⟩ = some (.slice p' l' c') ∧ Below w.heap.size w w2.drew) := by
    obtain ⟨a0, a1, a2, a3, a4, a5, a6, a7, b0, b1, b2, b3, b4, b5, b6, b7, a9⟩ := HS2.out
    exact ⟨a0, a1, a2, a3, a4, a5, a6, a7, b0, b1, b2, b3, b4, b5, b6, b7, a9.drew⟩
  have s1 : IntKind.i64.wrap at' = at' := IntWalk.i64_in _ (by omega)
  go_region_held3 (fun W => (W.cell? ⟨w.heap.size, 0, none⟩ = some (.int .u8 k) ∧ W.cell? ⟨w.heap.size, 1, none⟩ = some (.int .u8 op) ∧ W.cell? ⟨w.heap.size, 2, none⟩ = some (.int .i64 pl) ∧ W.cell? ⟨w.heap.size, 3, none⟩ = some (.int .i64 nn) ∧ W.cell? ⟨w.heap.size, 4, none⟩ = some (.string nm) ∧ W.cell? ⟨w.heap.size, 5, none⟩ = some (.string ar) ∧ W.cell? ⟨w.heap.size, 6, none⟩ = some (.string ex) ∧ W.cell? ⟨w.heap.size, 7, none⟩ = some (.slice p l c) ∧ W.cell? ⟨w.heap.size + 1, 0, none⟩ = some (.int .u8 k') ∧ W.cell? ⟨w.heap.size + 1, 1, none⟩ = some (.int .u8 op') ∧ W.cell? ⟨w.heap.size + 1, 2, none⟩ = some (.int .i64 pl') ∧ W.cell? ⟨w.heap.size + 1, 3, none⟩ = some (.int .i64 nn') ∧ W.cell? ⟨w.heap.size + 1, 4, none⟩ = some (.string nm') ∧ W.cell? ⟨w.heap.size + 1, 5, none⟩ = some (.string ar') ∧ W.cell? ⟨w.heap.size + 1, 6, none⟩ = some (.string ex') ∧ W.cell? ⟨w.heap.size + 1, 7, none⟩ = some (.slice p' l' c') ∧ Below w.heap.size w W)) (first | exact hS0 | assumption) (first
    | (go_at_call 19; (with_reducible refine (H1.out _ ?_).mono ?_); (first | exact hS0 | assumption); rintro e w' ⟨rfl, hS'⟩)
    | (go_at_call 20; (with_reducible refine (H2.out _ ?_).mono ?_); (first | exact hS0 | assumption); rintro e w' ⟨rfl, hS'⟩)
    | (go_at_call 19; (with_reducible refine (H3.out _ ?_).mono ?_); (first | exact hS0 | assumption); rintro e w' ⟨rfl, hS'⟩)
    | (go_at_call 19; (with_reducible refine (H5.out _ _ _ ?_ ?_).mono ?_); assumption; exact HMV.out; rintro e w' ⟨rfl, hS'⟩)
    | (go_at_call 9; (with_reducible refine (H6.out _ ?_).mono ?_); (first | exact hS0 | assumption); rintro e w' ⟨rfl, hS'⟩)
    | (go_at_call 21; (with_reducible refine (H4.out _ ?_).mono ?_); (first | exact hS0 | assumption); rintro e w' ⟨q, d, rfl, hMV, hS'⟩; have HMV := Lib.hid hMV; clear hMV))
  all_goals try go_wp2_with (fail)
  all_goals go_ret
  all_goals exact ⟨rfl, hS'.2.2.2.2.2.2.2.2.2.2.2.2.2.2.2.2⟩
end Term
end Go.Proofs.YtpedmaomogigmaaDoor
