/- The walk of layer 4's statement on sums. -/
import Derived.Test.YtpedmaomogigmaaDoorTermCountsW
import Derived.Deep.RegionHeld3
import Derived.IntWalk
namespace Go.Proofs.YtpedmaomogigmaaDoor
open Go.RowKit
set_option linter.unusedVariables false
namespace Term

theorem kinds_first (t : Tm) : ((kindsOf [t]).map (Value.int .u8))[0]? = some (.int .u8 t.h.k) := by
  unfold kindsOf
  rw [flatK_cons, flatT_eq]
  rfl
theorem has_own (t : Tm) : hasK t.h.k [t] = true := by rw [hasK_cons, hasT_eq]; simp

set_option maxRecDepth 100000 in
set_option maxHeartbeats 25600000 in
theorem sums_region (k op pl nn : Int) (nm ar ex : ByteArray) (p : Option Addr) (l c g : Nat) (t : Tm) (w : World) (hT : TmIs w ⟨k, op, pl, nn, nm, ar, ex⟩ p l c t) (hw : wt t ≤ 400) (hkw : Words.KwLaid w) :
    (∀ V W' : World, (V.cell? ⟨w.heap.size, 0, none⟩ = some (.int .u8 k) ∧ V.cell? ⟨w.heap.size, 1, none⟩ = some (.int .u8 op) ∧ V.cell? ⟨w.heap.size, 2, none⟩ = some (.int .i64 pl) ∧ V.cell? ⟨w.heap.size, 3, none⟩ = some (.int .i64 nn) ∧ V.cell? ⟨w.heap.size, 4, none⟩ = some (.string nm) ∧ V.cell? ⟨w.heap.size, 5, none⟩ = some (.string ar) ∧ V.cell? ⟨w.heap.size, 6, none⟩ = some (.string ex) ∧ V.cell? ⟨w.heap.size, 7, none⟩ = some (.slice p l c) ∧ V.cell? ⟨g, 0, none⟩ = some (.int .u8 k) ∧ Below w.heap.size w V) → Below V.heap.size V W' → (W'.cell? ⟨w.heap.size, 0, none⟩ = some (.int .u8 k) ∧ W'.cell? ⟨w.heap.size, 1, none⟩ = some (.int .u8 op) ∧ W'.cell? ⟨w.heap.size, 2, none⟩ = some (.int .i64 pl) ∧ W'.cell? ⟨w.heap.size, 3, none⟩ = some (.int .i64 nn) ∧ W'.cell? ⟨w.heap.size, 4, none⟩ = some (.string nm) ∧ W'.cell? ⟨w.heap.size, 5, none⟩ = some (.string ar) ∧ W'.cell? ⟨w.heap.size, 6, none⟩ = some (.string ex) ∧ W'.cell? ⟨w.heap.size, 7, none⟩ = some (.slice p l c) ∧ W'.cell? ⟨g, 0, none⟩ = some (.int .u8 k) ∧ Below w.heap.size w W')) ∧
    (∀ V : World, (V.cell? ⟨w.heap.size, 0, none⟩ = some (.int .u8 k) ∧ V.cell? ⟨w.heap.size, 1, none⟩ = some (.int .u8 op) ∧ V.cell? ⟨w.heap.size, 2, none⟩ = some (.int .i64 pl) ∧ V.cell? ⟨w.heap.size, 3, none⟩ = some (.int .i64 nn) ∧ V.cell? ⟨w.heap.size, 4, none⟩ = some (.string nm) ∧ V.cell? ⟨w.heap.size, 5, none⟩ = some (.string ar) ∧ V.cell? ⟨w.heap.size, 6, none⟩ = some (.string ex) ∧ V.cell? ⟨w.heap.size, 7, none⟩ = some (.slice p l c) ∧ V.cell? ⟨g, 0, none⟩ = some (.int .u8 k) ∧ Below w.heap.size w V) → Calls Tryd.prog 16 #[.slice (some ⟨V.heap.size, 0, none⟩) 1 1] (V.alloc (.cells #[.int .u8 k, .int .u8 op, .int .i64 pl, .int .i64 nn, .string nm, .string ar, .string ex, .slice p l c] 26)) fun e w' => e = .returned (.int .i64 ((wts t.ks : Nat) + 1 : Int)) ∧ (w'.cell? ⟨w.heap.size, 0, none⟩ = some (.int .u8 k) ∧ w'.cell? ⟨w.heap.size, 1, none⟩ = some (.int .u8 op) ∧ w'.cell? ⟨w.heap.size, 2, none⟩ = some (.int .i64 pl) ∧ w'.cell? ⟨w.heap.size, 3, none⟩ = some (.int .i64 nn) ∧ w'.cell? ⟨w.heap.size, 4, none⟩ = some (.string nm) ∧ w'.cell? ⟨w.heap.size, 5, none⟩ = some (.string ar) ∧ w'.cell? ⟨w.heap.size, 6, none⟩ = some (.string ex) ∧ w'.cell? ⟨w.heap.size, 7, none⟩ = some (.slice p l c) ∧ w'.cell? ⟨g, 0, none⟩ = some (.int .u8 k) ∧ Below w.heap.size w w')) ∧
    (∀ V : World, (V.cell? ⟨w.heap.size, 0, none⟩ = some (.int .u8 k) ∧ V.cell? ⟨w.heap.size, 1, none⟩ = some (.int .u8 op) ∧ V.cell? ⟨w.heap.size, 2, none⟩ = some (.int .i64 pl) ∧ V.cell? ⟨w.heap.size, 3, none⟩ = some (.int .i64 nn) ∧ V.cell? ⟨w.heap.size, 4, none⟩ = some (.string nm) ∧ V.cell? ⟨w.heap.size, 5, none⟩ = some (.string ar) ∧ V.cell? ⟨w.heap.size, 6, none⟩ = some (.string ex) ∧ V.cell? ⟨w.heap.size, 7, none⟩ = some (.slice p l c) ∧ V.cell? ⟨g, 0, none⟩ = some (.int .u8 k) ∧ Below w.heap.size w V) → Calls Tryd.prog 16 #[.slice p l c] V fun e w' => e = .returned (.int .i64 (wts t.ks : Nat)) ∧ (w'.cell? ⟨w.heap.size, 0, none⟩ = some (.int .u8 k) ∧ w'.cell? ⟨w.heap.size, 1, none⟩ = some (.int .u8 op) ∧ w'.cell? ⟨w.heap.size, 2, none⟩ = some (.int .i64 pl) ∧ w'.cell? ⟨w.heap.size, 3, none⟩ = some (.int .i64 nn) ∧ w'.cell? ⟨w.heap.size, 4, none⟩ = some (.string nm) ∧ w'.cell? ⟨w.heap.size, 5, none⟩ = some (.string ar) ∧ w'.cell? ⟨w.heap.size, 6, none⟩ = some (.string ex) ∧ w'.cell? ⟨w.heap.size, 7, none⟩ = some (.slice p l c) ∧ w'.cell? ⟨g, 0, none⟩ = some (.int .u8 k) ∧ Below w.heap.size w w')) ∧
    (∀ V : World, (V.cell? ⟨w.heap.size, 0, none⟩ = some (.int .u8 k) ∧ V.cell? ⟨w.heap.size, 1, none⟩ = some (.int .u8 op) ∧ V.cell? ⟨w.heap.size, 2, none⟩ = some (.int .i64 pl) ∧ V.cell? ⟨w.heap.size, 3, none⟩ = some (.int .i64 nn) ∧ V.cell? ⟨w.heap.size, 4, none⟩ = some (.string nm) ∧ V.cell? ⟨w.heap.size, 5, none⟩ = some (.string ar) ∧ V.cell? ⟨w.heap.size, 6, none⟩ = some (.string ex) ∧ V.cell? ⟨w.heap.size, 7, none⟩ = some (.slice p l c) ∧ V.cell? ⟨g, 0, none⟩ = some (.int .u8 k) ∧ Below w.heap.size w V) → Calls Tryd.prog 17 #[.slice (some ⟨V.heap.size, 0, none⟩) 1 1] (V.alloc (.cells #[.int .u8 k, .int .u8 op, .int .i64 pl, .int .i64 nn, .string nm, .string ar, .string ex, .slice p l c] 26)) fun e w' => e = .returned (.int .i64 ((depK t.ks : Nat) + 1 : Int)) ∧ (w'.cell? ⟨w.heap.size, 0, none⟩ = some (.int .u8 k) ∧ w'.cell? ⟨w.heap.size, 1, none⟩ = some (.int .u8 op) ∧ w'.cell? ⟨w.heap.size, 2, none⟩ = some (.int .i64 pl) ∧ w'.cell? ⟨w.heap.size, 3, none⟩ = some (.int .i64 nn) ∧ w'.cell? ⟨w.heap.size, 4, none⟩ = some (.string nm) ∧ w'.cell? ⟨w.heap.size, 5, none⟩ = some (.string ar) ∧ w'.cell? ⟨w.heap.size, 6, none⟩ = some (.string ex) ∧ w'.cell? ⟨w.heap.size, 7, none⟩ = some (.slice p l c) ∧ w'.cell? ⟨g, 0, none⟩ = some (.int .u8 k) ∧ Below w.heap.size w w')) ∧
    (∀ V : World, (V.cell? ⟨w.heap.size, 0, none⟩ = some (.int .u8 k) ∧ V.cell? ⟨w.heap.size, 1, none⟩ = some (.int .u8 op) ∧ V.cell? ⟨w.heap.size, 2, none⟩ = some (.int .i64 pl) ∧ V.cell? ⟨w.heap.size, 3, none⟩ = some (.int .i64 nn) ∧ V.cell? ⟨w.heap.size, 4, none⟩ = some (.string nm) ∧ V.cell? ⟨w.heap.size, 5, none⟩ = some (.string ar) ∧ V.cell? ⟨w.heap.size, 6, none⟩ = some (.string ex) ∧ V.cell? ⟨w.heap.size, 7, none⟩ = some (.slice p l c) ∧ V.cell? ⟨g, 0, none⟩ = some (.int .u8 k) ∧ Below w.heap.size w V) → Calls Tryd.prog 17 #[.slice p l c] V fun e w' => e = .returned (.int .i64 (depK t.ks : Nat)) ∧ (w'.cell? ⟨w.heap.size, 0, none⟩ = some (.int .u8 k) ∧ w'.cell? ⟨w.heap.size, 1, none⟩ = some (.int .u8 op) ∧ w'.cell? ⟨w.heap.size, 2, none⟩ = some (.int .i64 pl) ∧ w'.cell? ⟨w.heap.size, 3, none⟩ = some (.int .i64 nn) ∧ w'.cell? ⟨w.heap.size, 4, none⟩ = some (.string nm) ∧ w'.cell? ⟨w.heap.size, 5, none⟩ = some (.string ar) ∧ w'.cell? ⟨w.heap.size, 6, none⟩ = some (.string ex) ∧ w'.cell? ⟨w.heap.size, 7, none⟩ = some (.slice p l c) ∧ w'.cell? ⟨g, 0, none⟩ = some (.int .u8 k) ∧ Below w.heap.size w w')) ∧
    (∀ V : World, (V.cell? ⟨w.heap.size, 0, none⟩ = some (.int .u8 k) ∧ V.cell? ⟨w.heap.size, 1, none⟩ = some (.int .u8 op) ∧ V.cell? ⟨w.heap.size, 2, none⟩ = some (.int .i64 pl) ∧ V.cell? ⟨w.heap.size, 3, none⟩ = some (.int .i64 nn) ∧ V.cell? ⟨w.heap.size, 4, none⟩ = some (.string nm) ∧ V.cell? ⟨w.heap.size, 5, none⟩ = some (.string ar) ∧ V.cell? ⟨w.heap.size, 6, none⟩ = some (.string ex) ∧ V.cell? ⟨w.heap.size, 7, none⟩ = some (.slice p l c) ∧ V.cell? ⟨g, 0, none⟩ = some (.int .u8 k) ∧ Below w.heap.size w V) → Calls Tryd.prog 18 #[.int .u8 k, .slice (some ⟨V.heap.size, 0, none⟩) 1 1] (V.alloc (.cells #[.int .u8 k, .int .u8 op, .int .i64 pl, .int .i64 nn, .string nm, .string ar, .string ex, .slice p l c] 26)) fun e w' => e = .returned (.bool true) ∧ (w'.cell? ⟨w.heap.size, 0, none⟩ = some (.int .u8 k) ∧ w'.cell? ⟨w.heap.size, 1, none⟩ = some (.int .u8 op) ∧ w'.cell? ⟨w.heap.size, 2, none⟩ = some (.int .i64 pl) ∧ w'.cell? ⟨w.heap.size, 3, none⟩ = some (.int .i64 nn) ∧ w'.cell? ⟨w.heap.size, 4, none⟩ = some (.string nm) ∧ w'.cell? ⟨w.heap.size, 5, none⟩ = some (.string ar) ∧ w'.cell? ⟨w.heap.size, 6, none⟩ = some (.string ex) ∧ w'.cell? ⟨w.heap.size, 7, none⟩ = some (.slice p l c) ∧ w'.cell? ⟨g, 0, none⟩ = some (.int .u8 k) ∧ Below w.heap.size w w')) ∧
    (∀ V : World, (V.cell? ⟨w.heap.size, 0, none⟩ = some (.int .u8 k) ∧ V.cell? ⟨w.heap.size, 1, none⟩ = some (.int .u8 op) ∧ V.cell? ⟨w.heap.size, 2, none⟩ = some (.int .i64 pl) ∧ V.cell? ⟨w.heap.size, 3, none⟩ = some (.int .i64 nn) ∧ V.cell? ⟨w.heap.size, 4, none⟩ = some (.string nm) ∧ V.cell? ⟨w.heap.size, 5, none⟩ = some (.string ar) ∧ V.cell? ⟨w.heap.size, 6, none⟩ = some (.string ex) ∧ V.cell? ⟨w.heap.size, 7, none⟩ = some (.slice p l c) ∧ V.cell? ⟨g, 0, none⟩ = some (.int .u8 k) ∧ Below w.heap.size w V) → Calls Tryd.prog 9 #[] V fun e w' => e = .returned (.bool true) ∧ (w'.cell? ⟨w.heap.size, 0, none⟩ = some (.int .u8 k) ∧ w'.cell? ⟨w.heap.size, 1, none⟩ = some (.int .u8 op) ∧ w'.cell? ⟨w.heap.size, 2, none⟩ = some (.int .i64 pl) ∧ w'.cell? ⟨w.heap.size, 3, none⟩ = some (.int .i64 nn) ∧ w'.cell? ⟨w.heap.size, 4, none⟩ = some (.string nm) ∧ w'.cell? ⟨w.heap.size, 5, none⟩ = some (.string ar) ∧ w'.cell? ⟨w.heap.size, 6, none⟩ = some (.string ex) ∧ w'.cell? ⟨w.heap.size, 7, none⟩ = some (.slice p l c) ∧ w'.cell? ⟨g, 0, none⟩ = some (.int .u8 k) ∧ Below w.heap.size w w')) := by
  have hkeep : ∀ V W' : World, (V.cell? ⟨w.heap.size, 0, none⟩ = some (.int .u8 k) ∧ V.cell? ⟨w.heap.size, 1, none⟩ = some (.int .u8 op) ∧ V.cell? ⟨w.heap.size, 2, none⟩ = some (.int .i64 pl) ∧ V.cell? ⟨w.heap.size, 3, none⟩ = some (.int .i64 nn) ∧ V.cell? ⟨w.heap.size, 4, none⟩ = some (.string nm) ∧ V.cell? ⟨w.heap.size, 5, none⟩ = some (.string ar) ∧ V.cell? ⟨w.heap.size, 6, none⟩ = some (.string ex) ∧ V.cell? ⟨w.heap.size, 7, none⟩ = some (.slice p l c) ∧ V.cell? ⟨g, 0, none⟩ = some (.int .u8 k) ∧ Below w.heap.size w V) → Below V.heap.size V W' → (W'.cell? ⟨w.heap.size, 0, none⟩ = some (.int .u8 k) ∧ W'.cell? ⟨w.heap.size, 1, none⟩ = some (.int .u8 op) ∧ W'.cell? ⟨w.heap.size, 2, none⟩ = some (.int .i64 pl) ∧ W'.cell? ⟨w.heap.size, 3, none⟩ = some (.int .i64 nn) ∧ W'.cell? ⟨w.heap.size, 4, none⟩ = some (.string nm) ∧ W'.cell? ⟨w.heap.size, 5, none⟩ = some (.string ar) ∧ W'.cell? ⟨w.heap.size, 6, none⟩ = some (.string ex) ∧ W'.cell? ⟨w.heap.size, 7, none⟩ = some (.slice p l c) ∧ W'.cell? ⟨g, 0, none⟩ = some (.int .u8 k) ∧ Below w.heap.size w W') := fun V W' h hb => by
    obtain ⟨a0, a1, a2, a3, a4, a5, a6, a7, a8, a9⟩ := h
    have hr := Reads.of_below hb
    exact ⟨hr _ _ a0, hr _ _ a1, hr _ _ a2, hr _ _ a3, hr _ _ a4, hr _ _ a5, hr _ _ a6, hr _ _ a7, hr _ _ a8, below_then a9 hb a9.size⟩
  have hB : ∀ V : World, (V.cell? ⟨w.heap.size, 0, none⟩ = some (.int .u8 k) ∧ V.cell? ⟨w.heap.size, 1, none⟩ = some (.int .u8 op) ∧ V.cell? ⟨w.heap.size, 2, none⟩ = some (.int .i64 pl) ∧ V.cell? ⟨w.heap.size, 3, none⟩ = some (.int .i64 nn) ∧ V.cell? ⟨w.heap.size, 4, none⟩ = some (.string nm) ∧ V.cell? ⟨w.heap.size, 5, none⟩ = some (.string ar) ∧ V.cell? ⟨w.heap.size, 6, none⟩ = some (.string ex) ∧ V.cell? ⟨w.heap.size, 7, none⟩ = some (.slice p l c) ∧ V.cell? ⟨g, 0, none⟩ = some (.int .u8 k) ∧ Below w.heap.size w V) → Below w.heap.size w V := fun V h => h.2.2.2.2.2.2.2.2.2
  have hrow : ∀ (V W' : World) (O : Obj), (V.cell? ⟨w.heap.size, 0, none⟩ = some (.int .u8 k) ∧ V.cell? ⟨w.heap.size, 1, none⟩ = some (.int .u8 op) ∧ V.cell? ⟨w.heap.size, 2, none⟩ = some (.int .i64 pl) ∧ V.cell? ⟨w.heap.size, 3, none⟩ = some (.int .i64 nn) ∧ V.cell? ⟨w.heap.size, 4, none⟩ = some (.string nm) ∧ V.cell? ⟨w.heap.size, 5, none⟩ = some (.string ar) ∧ V.cell? ⟨w.heap.size, 6, none⟩ = some (.string ex) ∧ V.cell? ⟨w.heap.size, 7, none⟩ = some (.slice p l c) ∧ V.cell? ⟨g, 0, none⟩ = some (.int .u8 k) ∧ Below w.heap.size w V) → Below (V.alloc O).heap.size (V.alloc O) W' → (W'.cell? ⟨w.heap.size, 0, none⟩ = some (.int .u8 k) ∧ W'.cell? ⟨w.heap.size, 1, none⟩ = some (.int .u8 op) ∧ W'.cell? ⟨w.heap.size, 2, none⟩ = some (.int .i64 pl) ∧ W'.cell? ⟨w.heap.size, 3, none⟩ = some (.int .i64 nn) ∧ W'.cell? ⟨w.heap.size, 4, none⟩ = some (.string nm) ∧ W'.cell? ⟨w.heap.size, 5, none⟩ = some (.string ar) ∧ W'.cell? ⟨w.heap.size, 6, none⟩ = some (.string ex) ∧ W'.cell? ⟨w.heap.size, 7, none⟩ = some (.slice p l c) ∧ W'.cell? ⟨g, 0, none⟩ = some (.int .u8 k) ∧ Below w.heap.size w W') := fun V W' O h hb => hkeep V W' h (below_row (Below.refl _ _) hb (Nat.le_refl _))
  have hone : ∀ V : World, (V.cell? ⟨w.heap.size, 0, none⟩ = some (.int .u8 k) ∧ V.cell? ⟨w.heap.size, 1, none⟩ = some (.int .u8 op) ∧ V.cell? ⟨w.heap.size, 2, none⟩ = some (.int .i64 pl) ∧ V.cell? ⟨w.heap.size, 3, none⟩ = some (.int .i64 nn) ∧ V.cell? ⟨w.heap.size, 4, none⟩ = some (.string nm) ∧ V.cell? ⟨w.heap.size, 5, none⟩ = some (.string ar) ∧ V.cell? ⟨w.heap.size, 6, none⟩ = some (.string ex) ∧ V.cell? ⟨w.heap.size, 7, none⟩ = some (.slice p l c) ∧ V.cell? ⟨g, 0, none⟩ = some (.int .u8 k) ∧ Below w.heap.size w V) → Kids (V.alloc (.cells #[.int .u8 k, .int .u8 op, .int .i64 pl, .int .i64 nn, .string nm, .string ar, .string ex, .slice p l c] 26)) (some ⟨V.heap.size, 0, none⟩) [t] := fun V h => kids_one (hT.below (hB V h)) _ _ rfl
  have hkid : ∀ V : World, (V.cell? ⟨w.heap.size, 0, none⟩ = some (.int .u8 k) ∧ V.cell? ⟨w.heap.size, 1, none⟩ = some (.int .u8 op) ∧ V.cell? ⟨w.heap.size, 2, none⟩ = some (.int .i64 pl) ∧ V.cell? ⟨w.heap.size, 3, none⟩ = some (.int .i64 nn) ∧ V.cell? ⟨w.heap.size, 4, none⟩ = some (.string nm) ∧ V.cell? ⟨w.heap.size, 5, none⟩ = some (.string ar) ∧ V.cell? ⟨w.heap.size, 6, none⟩ = some (.string ex) ∧ V.cell? ⟨w.heap.size, 7, none⟩ = some (.slice p l c) ∧ V.cell? ⟨g, 0, none⟩ = some (.int .u8 k) ∧ Below w.heap.size w V) → Kids V p t.ks := fun V h => hT.kids.stay (hB V h)
  have hlm : l ≤ maxLen := Nat.le_trans hT.cap.1 hT.cap.2
  have hwt := wt_ks t
  have h1 : wts [t] = wts t.ks + 1 := by rw [wts_cons, wts_nil, hwt]
  have h2 : depK [t] = depK t.ks + 1 := by rw [depK_cons, depK_nil, depT_eq]; omega
  have hk := hT.head
  refine ⟨hkeep, fun V h => ?_, fun V h => ?_, fun V h => ?_, fun V h => ?_, fun V h => ?_, fun V h => ?_⟩
  · refine (size_walk [t] _ 1 1 _ rfl (by unfold maxLen; omega) (hone V h) (by omega)).mono fun e w' ⟨he, hb⟩ => ⟨?_, hrow V w' _ h hb⟩
    rw [he, h1]; exact ret_i64 (by omega)
  · exact (size_walk t.ks p l c V hT.len hlm (hkid V h) (by omega)).mono fun e w' ⟨he, hb⟩ => ⟨he, hkeep V w' h hb⟩
  · refine (depth_walk (wts [t]) [t] _ 1 1 _ (Nat.le_refl _) (by omega) rfl (by unfold maxLen; omega) (hone V h)).mono fun e w' ⟨he, hb⟩ => ⟨?_, hrow V w' _ h hb⟩
    rw [he, h2]; exact ret_i64 (by omega)
  · exact (depth_walk (wts t.ks) t.ks p l c V (Nat.le_refl _) (by omega) hT.len hlm (hkid V h)).mono fun e w' ⟨he, hb⟩ => ⟨he, hkeep V w' h hb⟩
  · refine (has_walk k [t] _ 1 1 _ rfl (by unfold maxLen; omega) (hone V h)).mono fun e w' ⟨he, hb⟩ => ⟨?_, hrow V w' _ h hb⟩
    have := has_own t
    rw [hk] at this
    rw [he, this]
  · exact (awake_walk V (hkw.below (hB V h))).mono fun e w' ⟨he, hb⟩ => ⟨he, hkeep V w' h hb⟩

set_option maxRecDepth 100000 in
set_option maxHeartbeats 25600000 in
theorem sums_walk (h : Hd) (p : Option Addr) (l c : Nat) (t : Tm) (w : World) (hT : TmIs w h p l c t) (hkw : Words.KwLaid w) :
    Calls Tryd.prog 7 #[.agg #[.int .u8 h.k, .int .u8 h.op, .int .i64 h.pl, .int .i64 h.n, .string h.name, .string h.arg, .string h.exn, .slice p l c]] w fun e w' => e = .returned (.bool true) ∧ Below w.heap.size w w' := by
  have hbox : ∀ O : Obj, Below w.heap.size w (w.alloc O) := fun O => (Below.refl _ _).alloc (Nat.le_refl _) O
  have hg := fun O => great_walk t h p l c (w.alloc O) (hT.below (hbox O))
  have hhead := hT.head
  obtain ⟨k, op, pl, nn, nm, ar, ex⟩ := h
  have hfrom : ∀ W, Below (w.alloc (.cells #[.int .u8 k, .int .u8 op, .int .i64 pl, .int .i64 nn, .string nm, .string ar, .string ex, .slice p l c] 26)).heap.size (w.alloc (.cells #[.int .u8 k, .int .u8 op, .int .i64 pl, .int .i64 nn, .string nm, .string ar, .string ex, .slice p l c] 26)) W → Below w.heap.size w W := fun W hb => (hbox _).trans (hb.mono (hbox _).size)
  have HBOX := Lib.hid hbox; have HFROM := Lib.hid hfrom
  cases hgr : greatB t
  case true =>
    rw [hgr] at hg
    have HG := Lib.hid hg; have HKW := Lib.hid hkw
    clear hbox hg hT hgr hkw hfrom hhead
    go_enter Tryd.func7, Tryd.ntmps7
    go_wp2_with (fail)
    refine (HG.out _).mono ?_
    rintro e w1 ⟨rfl, hb1⟩
    have HB1 := Lib.hid (HFROM.out _ hb1); clear hb1
    go_wp2_with (fail)
    refine (awake_walk _ (HKW.out.below HB1.out)).mono ?_
    rintro e w2 ⟨rfl, hb2⟩
    have HB2 := Lib.hid (below_then HB1.out hb2 HB1.out.size); clear hb2
    go_wp2
    go_ret
    exact ⟨rfl, HB2.out⟩
  have hsm := (small_of hgr).1
  rw [hgr] at hg
  have hreg := fun g => sums_region k op pl nn nm ar ex p l c g t w hT hsm hkw
  have hkk := fun V (hV : Below w.heap.size w V) => kinds_walk [t] (some ⟨V.heap.size, 0, none⟩) 1 1 (V.alloc (.cells #[.int .u8 k, .int .u8 op, .int .i64 pl, .int .i64 nn, .string nm, .string ar, .string ex, .slice p l c] 26)) rfl (by unfold maxLen; omega) (kids_one (hT.below hV) 26 _ rfl) (by rw [wts_cons, wts_nil]; omega)
  have hkf := kinds_first t
  rw [hhead] at hkf
  have hwt : wts [t] = wts t.ks + 1 := by rw [wts_cons, wts_nil, wt_ks]
  have hY : wts t.ks ≤ 400 := by have := wt_ks t; omega
  have hD : depK t.ks ≤ 400 := by have := (dep_le (wts t.ks)).2 t.ks (Nat.le_refl _); omega
  have HG := Lib.hid hg; have HREG := Lib.hid hreg; have HKK := Lib.hid hkk; have HKF := Lib.hid hkf; have HWT := Lib.hid hwt
  clear hbox hg hT hgr hkw hfrom hhead hsm hreg hkk hkf hwt
  go_enter Tryd.func7, Tryd.ntmps7
  go_wp2_with (fail)
  refine (HG.out _).mono ?_
  rintro e w1 ⟨rfl, hb1⟩
  obtain ⟨c0, c1, c2, c3, c4, c5, c6, c7⟩ := box8 (N := w.heap.size) rfl hb1
  have HB1 := Lib.hid hb1
  clear hb1
  go_wp2_with (fail)
  refine (HKK.out _ (HFROM.out _ HB1.out)).mono ?_
  rintro e w2 ⟨kv, rfl, hko, hb2⟩
  rw [kindsOf_len, HWT.out] at hko
  have hb2' := below_row HB1.out hb2 HB1.out.size
  clear hb2 c0 c1 c2 c3 c4 c5 c6 c7
  obtain ⟨ka, kc, rfl, hkc, hnkc⟩ := own_slice hko
  obtain ⟨g, rfl⟩ := own_at hko (by omega)
  have ck := row_cell hko HKF.out
  obtain ⟨c0, c1, c2, c3, c4, c5, c6, c7⟩ := box8 (N := w.heap.size) rfl hb2'
  have hS0 : (w2.drew.cell? ⟨w.heap.size, 0, none⟩ = some (.int .u8 k) ∧ w2.drew.cell? ⟨w.heap.size, 1, none⟩ = some (.int .u8 op) ∧ w2.drew.cell? ⟨w.heap.size, 2, none⟩ = some (.int .i64 pl) ∧ w2.drew.cell? ⟨w.heap.size, 3, none⟩ = some (.int .i64 nn) ∧ w2.drew.cell? ⟨w.heap.size, 4, none⟩ = some (.string nm) ∧ w2.drew.cell? ⟨w.heap.size, 5, none⟩ = some (.string ar) ∧ w2.drew.cell? ⟨w.heap.size, 6, none⟩ = some (.string ex) ∧ w2.drew.cell? ⟨w.heap.size, 7, none⟩ = some (.slice p l c) ∧ w2.drew.cell? ⟨g, 0, none⟩ = some (.int .u8 k) ∧ Below w.heap.size w w2.drew) := ⟨c0, c1, c2, c3, c4, c5, c6, c7, ck, (HFROM.out _ hb2').drew⟩
  obtain ⟨h1, h2, h3, h4, h5, h6, h7⟩ := HREG.out g
  have hal : ∀ (V : World) (O : Obj), (V.cell? ⟨w.heap.size, 0, none⟩ = some (.int .u8 k) ∧ V.cell? ⟨w.heap.size, 1, none⟩ = some (.int .u8 op) ∧ V.cell? ⟨w.heap.size, 2, none⟩ = some (.int .i64 pl) ∧ V.cell? ⟨w.heap.size, 3, none⟩ = some (.int .i64 nn) ∧ V.cell? ⟨w.heap.size, 4, none⟩ = some (.string nm) ∧ V.cell? ⟨w.heap.size, 5, none⟩ = some (.string ar) ∧ V.cell? ⟨w.heap.size, 6, none⟩ = some (.string ex) ∧ V.cell? ⟨w.heap.size, 7, none⟩ = some (.slice p l c) ∧ V.cell? ⟨g, 0, none⟩ = some (.int .u8 k) ∧ Below w.heap.size w V) → ((V.alloc O).cell? ⟨w.heap.size, 0, none⟩ = some (.int .u8 k) ∧ (V.alloc O).cell? ⟨w.heap.size, 1, none⟩ = some (.int .u8 op) ∧ (V.alloc O).cell? ⟨w.heap.size, 2, none⟩ = some (.int .i64 pl) ∧ (V.alloc O).cell? ⟨w.heap.size, 3, none⟩ = some (.int .i64 nn) ∧ (V.alloc O).cell? ⟨w.heap.size, 4, none⟩ = some (.string nm) ∧ (V.alloc O).cell? ⟨w.heap.size, 5, none⟩ = some (.string ar) ∧ (V.alloc O).cell? ⟨w.heap.size, 6, none⟩ = some (.string ex) ∧ (V.alloc O).cell? ⟨w.heap.size, 7, none⟩ = some (.slice p l c) ∧ (V.alloc O).cell? ⟨g, 0, none⟩ = some (.int .u8 k) ∧ Below w.heap.size w (V.alloc O)) := fun V O h => h1 V _ h ((Below.refl _ _).alloc (Nat.le_refl _) O)
  have hS2 : (w2.cell? ⟨w.heap.size, 0, none⟩ = some (.int .u8 k) ∧ w2.cell? ⟨w.heap.size, 1, none⟩ = some (.int .u8 op) ∧ w2.cell? ⟨w.heap.size, 2, none⟩ = some (.int .i64 pl) ∧ w2.cell? ⟨w.heap.size, 3, none⟩ = some (.int .i64 nn) ∧ w2.cell? ⟨w.heap.size, 4, none⟩ = some (.string nm) ∧ w2.cell? ⟨w.heap.size, 5, none⟩ = some (.string ar) ∧ w2.cell? ⟨w.heap.size, 6, none⟩ = some (.string ex) ∧ w2.cell? ⟨w.heap.size, 7, none⟩ = some (.slice p l c) ∧ w2.cell? ⟨g, 0, none⟩ = some (.int .u8 k) ∧ Below w.heap.size w w2) := ⟨c0, c1, c2, c3, c4, c5, c6, c7, ck, HFROM.out _ hb2'⟩
  have h2d := h2 w2.drew hS0
  have h2e : Calls Tryd.prog 16 #[.slice (some ⟨w2.heap.size, 0, none⟩) 1 1] (w2.alloc (.cells #[.int .u8 k, .int .u8 op, .int .i64 pl, .int .i64 nn, .string nm, .string ar, .string ex, .slice p l c] 26)).drew fun e w' => e = .returned (.int .i64 ((wts t.ks : Nat) + 1 : Int)) ∧ (w'.cell? ⟨w.heap.size, 0, none⟩ = some (.int .u8 k) ∧ w'.cell? ⟨w.heap.size, 1, none⟩ = some (.int .u8 op) ∧ w'.cell? ⟨w.heap.size, 2, none⟩ = some (.int .i64 pl) ∧ w'.cell? ⟨w.heap.size, 3, none⟩ = some (.int .i64 nn) ∧ w'.cell? ⟨w.heap.size, 4, none⟩ = some (.string nm) ∧ w'.cell? ⟨w.heap.size, 5, none⟩ = some (.string ar) ∧ w'.cell? ⟨w.heap.size, 6, none⟩ = some (.string ex) ∧ w'.cell? ⟨w.heap.size, 7, none⟩ = some (.slice p l c) ∧ w'.cell? ⟨g, 0, none⟩ = some (.int .u8 k) ∧ Below w.heap.size w w') := h2d
  have hald : ∀ O : Obj, ((w2.alloc O).drew.cell? ⟨w.heap.size, 0, none⟩ = some (.int .u8 k) ∧ (w2.alloc O).drew.cell? ⟨w.heap.size, 1, none⟩ = some (.int .u8 op) ∧ (w2.alloc O).drew.cell? ⟨w.heap.size, 2, none⟩ = some (.int .i64 pl) ∧ (w2.alloc O).drew.cell? ⟨w.heap.size, 3, none⟩ = some (.int .i64 nn) ∧ (w2.alloc O).drew.cell? ⟨w.heap.size, 4, none⟩ = some (.string nm) ∧ (w2.alloc O).drew.cell? ⟨w.heap.size, 5, none⟩ = some (.string ar) ∧ (w2.alloc O).drew.cell? ⟨w.heap.size, 6, none⟩ = some (.string ex) ∧ (w2.alloc O).drew.cell? ⟨w.heap.size, 7, none⟩ = some (.slice p l c) ∧ (w2.alloc O).drew.cell? ⟨g, 0, none⟩ = some (.int .u8 k) ∧ Below w.heap.size w (w2.alloc O).drew) := fun O => hal w2.drew O hS0
  clear h2d
  generalize wts t.ks = Y at *
  generalize depK t.ks = D at *
  have H1 := Lib.hid hal; have H2E := Lib.hid h2e; have H1D := Lib.hid hald; have H2 := Lib.hid h2; have H3 := Lib.hid h3; have H4 := Lib.hid h4; have H5 := Lib.hid h5; have H6 := Lib.hid h6; have H7 := Lib.hid h7
  have y0 : (0 : Int) ≤ (Y : Int) := by omega
  have y1 : (0 : Int) < (Y : Int) + 1 := by omega
  have e1 : ((Y : Int) + 1 == 1 + (Y : Int)) = true := by rw [beq_iff_eq]; omega
  have e2 : ((D : Int) + 1 == 1 + (D : Int)) = true := by rw [beq_iff_eq]; omega
  have s1 : IntKind.i64.wrap (1 + (Y : Int)) = 1 + (Y : Int) := IntWalk.i64_in _ (by omega)
  have s2 : IntKind.i64.wrap (1 + (D : Int)) = 1 + (D : Int) := IntWalk.i64_in _ (by omega)
  clear h1 h2 h3 h4 h5 h6 h7 hko hb2' ck c0 c1 c2 c3 c4 c5 c6 c7 hal hY hD h2e hald hS2
  go_wp2_with (fail)
  go_region_held3 (fun W => (W.cell? ⟨w.heap.size, 0, none⟩ = some (.int .u8 k) ∧ W.cell? ⟨w.heap.size, 1, none⟩ = some (.int .u8 op) ∧ W.cell? ⟨w.heap.size, 2, none⟩ = some (.int .i64 pl) ∧ W.cell? ⟨w.heap.size, 3, none⟩ = some (.int .i64 nn) ∧ W.cell? ⟨w.heap.size, 4, none⟩ = some (.string nm) ∧ W.cell? ⟨w.heap.size, 5, none⟩ = some (.string ar) ∧ W.cell? ⟨w.heap.size, 6, none⟩ = some (.string ex) ∧ W.cell? ⟨w.heap.size, 7, none⟩ = some (.slice p l c) ∧ W.cell? ⟨g, 0, none⟩ = some (.int .u8 k) ∧ Below w.heap.size w W)) (first | exact hS0 | assumption | exact H1D.out _ | exact H1.out _ _ (by assumption)) (first
    | (go_at_call 16; with_reducible refine (H2E.out).mono ?_; rintro e w' ⟨rfl, hS'⟩)
    | (go_at_call 16; with_reducible refine (H2.out _ ?_).mono ?_; (first | exact hS0 | assumption); rintro e w' ⟨rfl, hS'⟩)
    | (go_at_call 16; with_reducible refine (H3.out _ ?_).mono ?_; (first | exact hS0 | assumption); rintro e w' ⟨rfl, hS'⟩)
    | (go_at_call 17; with_reducible refine (H4.out _ ?_).mono ?_; (first | exact hS0 | assumption); rintro e w' ⟨rfl, hS'⟩)
    | (go_at_call 17; with_reducible refine (H5.out _ ?_).mono ?_; (first | exact hS0 | assumption); rintro e w' ⟨rfl, hS'⟩)
    | (go_at_call 18; with_reducible refine (H6.out _ ?_).mono ?_; (first | exact hS0 | assumption); rintro e w' ⟨rfl, hS'⟩)
    | (go_at_call 9; with_reducible refine (H7.out _ ?_).mono ?_; (first | exact hS0 | assumption); rintro e w' ⟨rfl, hS'⟩))
  all_goals try go_wp2_with (fail)
  all_goals go_ret
  all_goals exact ⟨rfl, hS'.2.2.2.2.2.2.2.2.2⟩
end Term
end Go.Proofs.YtpedmaomogigmaaDoor
