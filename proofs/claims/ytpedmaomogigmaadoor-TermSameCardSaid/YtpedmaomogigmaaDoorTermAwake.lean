/- The walk of the document's example. -/
import Derived.Test.YtpedmaomogigmaaDoorTermMay
import Derived.Test.YtpedmaomogigmaaDoorTermSize
import Derived.Test.YtpedmaomogigmaaDoorTermDepthP
import Derived.Test.YtpedmaomogigmaaDoorTermHas
namespace Go.Proofs.YtpedmaomogigmaaDoor
open Go.RowKit
set_option linter.unusedVariables false
namespace Term

/-- A slice of one term, just laid. -/
theorem kids_one {w : World} {h : Hd} {p : Option Addr} {l c : Nat} {t : Tm} (hT : TmIs w h p l c t) (ty : TypeId) (N : Nat) (hN : N = w.heap.size) :
    Kids (w.alloc (.cells #[.int .u8 h.k, .int .u8 h.op, .int .i64 h.pl, .int .i64 h.n, .string h.name, .string h.arg, .string h.exn, .slice p l c] ty)) (some ⟨N, 0, none⟩) [t] := by
  subst hN
  have hb : Below w.heap.size w (w.alloc (.cells #[.int .u8 h.k, .int .u8 h.op, .int .i64 h.pl, .int .i64 h.n, .string h.name, .string h.arg, .string h.exn, .slice p l c] ty)) := (Below.refl _ _).alloc (Nat.le_refl _) _
  have hg : tget [t] 0 = t := rfl
  refine .atkids _ 0 [t] (fun _ => p) (fun _ => c) (fun i hi => ?_) (fun i hi j v hv => ?_) (fun i hi => ?_) (fun i hi => ?_)
  all_goals
    have hi0 : i = 0 := by simp at hi; omega
    subst hi0
  · rw [hg, hT.head]; exact hT.ok
  · rw [hg, hT.head, hT.len] at hv
    rw [show (0 + 0 * 8 + j) = j from by omega, World.cell?_alloc_mark]
    simpa [tcells] using hv
  · rw [hg, hT.len]; exact hT.cap
  · rw [hg]; exact hT.kids.stay hb
/-- A box of a term, read later. -/
theorem box8 {V W : World} {N : Nat} (hN : N = V.heap.size) {a0 a1 a2 a3 a4 a5 a6 a7 : Value} {ty : TypeId} (hb : Below (V.alloc (.cells #[a0, a1, a2, a3, a4, a5, a6, a7] ty)).heap.size (V.alloc (.cells #[a0, a1, a2, a3, a4, a5, a6, a7] ty)) W) :
    W.cell? ⟨N, 0, none⟩ = some a0 ∧ W.cell? ⟨N, 1, none⟩ = some a1 ∧ W.cell? ⟨N, 2, none⟩ = some a2 ∧ W.cell? ⟨N, 3, none⟩ = some a3 ∧ W.cell? ⟨N, 4, none⟩ = some a4 ∧ W.cell? ⟨N, 5, none⟩ = some a5 ∧ W.cell? ⟨N, 6, none⟩ = some a6 ∧ W.cell? ⟨N, 7, none⟩ = some a7 := by
  subst hN
  exact ⟨boxAt hb 0 rfl, boxAt hb 1 rfl, boxAt hb 2 rfl, boxAt hb 3 rfl, boxAt hb 4 rfl, boxAt hb 5 rfl, boxAt hb 6 rfl, boxAt hb 7 rfl⟩

theorem below_row {B : Nat} {a w1 w2 : World} {O : Obj} (h : Below B a w1) (hb : Below (w1.alloc O).heap.size (w1.alloc O) w2) (hB : B ≤ w1.heap.size) : Below B a w2 :=
  h.trans ((((Below.refl _ _).alloc (Nat.le_refl _) O).trans (hb.mono (by simp))).mono hB)
theorem below_then {B : Nat} {a w1 w2 : World} (h : Below B a w1) (hb : Below w1.heap.size w1 w2) (hB : B ≤ w1.heap.size) : Below B a w2 := h.trans (hb.mono hB)
def exX : Tm := .node ⟨2, 0, 0, 0, ⟨#[120]⟩, ⟨#[]⟩, ⟨#[]⟩⟩ []
def exF : Tm := .node ⟨11, 0, 0, 0, ⟨#[]⟩, ⟨#[120]⟩, ⟨#[]⟩⟩ [exX]
theorem ex_w : wts [exF] = 2 := by
  unfold exF exX
  rw [wts_cons, wts_nil, wt_ks, Tm.ks, wts_cons, wts_nil, wt_ks, Tm.ks, wts_nil]
theorem ex_d : depK [exF] = 2 := by
  unfold exF exX
  rw [depK_cons, depK_nil, depT_eq, Tm.ks, depK_cons, depK_nil, depT_eq, Tm.ks, depK_nil]
  decide
theorem ex_h : hasK 2 [exF] = true := by
  unfold exF exX
  rw [hasK_cons, hasT_eq, Tm.ks, hasK_cons, hasT_eq]
  decide
theorem ex_n : Words.nameB ⟨#[120]⟩ = true := by decide +kernel
theorem ex_m : mayT exF = true := by
  have h1 : wt exF = 2 := by have := ex_w; rw [wts_cons, wts_nil] at this; omega
  unfold mayT
  rw [h1, okT_eq]
  unfold exF exX
  simp only [Tm.ks, Tm.h, okK_cons, okK_nil, okT_eq, List.length_cons, List.length_nil]
  rw [node_is11, node_is2, ex_n]
  decide +kernel
theorem ok_small {k : Int} {nm ar : ByteArray} (h : 0 ≤ k ∧ k ≤ 255) (h1 : nm.size ≤ 1) (h2 : ar.size ≤ 1) : HdOk ⟨k, 0, 0, 0, nm, ar, ⟨#[]⟩⟩ :=
  ⟨h, by show (0 : Int) ≤ 0 ∧ (0 : Int) ≤ 255; omega, by show (-9223372036854775808 : Int) ≤ 0 ∧ (0 : Int) ≤ 9223372036854775807; omega, by show (-9223372036854775808 : Int) ≤ 0 ∧ (0 : Int) ≤ 9223372036854775807; omega, by unfold maxLen; show nm.size ≤ _; omega, by unfold maxLen; show ar.size ≤ _; omega, by unfold maxLen; show (0 : Nat) ≤ _; omega⟩
theorem ex_x (w : World) : TmIs w ⟨2, 0, 0, 0, ⟨#[120]⟩, ⟨#[]⟩, ⟨#[]⟩⟩ none 0 0 exX :=
  ⟨rfl, rfl, ok_small (by omega) (by decide) (by decide), ⟨Nat.le_refl _, by unfold maxLen; omega⟩, .nokids _⟩
theorem ex_f {w : World} (ty : TypeId) (N : Nat) (hN : N = w.heap.size) : TmIs (w.alloc (.cells #[.int .u8 2, .int .u8 0, .int .i64 0, .int .i64 0, .string ⟨#[120]⟩, .string ⟨#[]⟩, .string ⟨#[]⟩, .slice none 0 0] ty)) ⟨11, 0, 0, 0, ⟨#[]⟩, ⟨#[120]⟩, ⟨#[]⟩⟩ (some ⟨N, 0, none⟩) 1 1 exF :=
  ⟨rfl, rfl, ok_small (by omega) (by decide) (by decide), ⟨Nat.le_refl _, by unfold maxLen; omega⟩, kids_one (ex_x w) ty N hN⟩

set_option maxRecDepth 10000 in
set_option maxHeartbeats 6400000 in
theorem awake_walk (w : World) (hkw : Words.KwLaid w) :
    Calls Tryd.prog 9 #[] w fun e w' => e = .returned (.bool true) ∧ Below w.heap.size w w' := by
  have hf := fun O : Obj => ex_f (w := w.alloc O) 26 (w.heap.size + 1) (by simp)
  have hS := fun (p : Option Addr) (W : World) hk => size_walk [exF] p 1 1 W rfl (by unfold maxLen; omega) hk (by rw [ex_w]; omega)
  have hD := fun (p : Option Addr) (W : World) hk => depth_walk 2 [exF] p 1 1 W (by rw [ex_w]; omega) (by rw [ex_w]; omega) rfl (by unfold maxLen; omega) hk
  have hH := fun (p : Option Addr) (W : World) hk => has_walk 2 [exF] p 1 1 W rfl (by unfold maxLen; omega) hk
  have hM := fun (p : Option Addr) (W : World) hT hk => may_walk exF ⟨11, 0, 0, 0, ⟨#[]⟩, ⟨#[120]⟩, ⟨#[]⟩⟩ p 1 1 W hT hk
  rw [ex_w] at hS
  rw [ex_d] at hD
  rw [ex_h] at hH
  rw [ex_m] at hM
  have hbox : ∀ O O' O'' : Obj, Below w.heap.size w (((w.alloc O).alloc O').alloc O'') := fun O O' O'' => (((Below.refl _ _).alloc (Nat.le_refl _) O).alloc (by simp) O').alloc (by simp; omega) O''
  have HF := Lib.hid hf; have HS := Lib.hid hS; have HD := Lib.hid hD; have HH := Lib.hid hH; have HM := Lib.hid hM; have HBOX := Lib.hid hbox; have HKW := Lib.hid hkw
  clear hf hS hD hH hM hbox hkw
  go_enter Tryd.func9, Tryd.ntmps9
  go_wp2_with (fail)
  have hf3 : TmIs (((w.alloc (.cells #[.int .u8 2, .int .u8 0, .int .i64 0, .int .i64 0, .string ⟨#[120]⟩, .string ⟨#[]⟩, .string ⟨#[]⟩, .slice none 0 0] 26)).alloc (.cells #[.int .u8 2, .int .u8 0, .int .i64 0, .int .i64 0, .string ⟨#[120]⟩, .string ⟨#[]⟩, .string ⟨#[]⟩, .slice none 0 0] 26)).alloc (.cells #[.int .u8 11, .int .u8 0, .int .i64 0, .int .i64 0, .string ⟨#[]⟩, .string ⟨#[120]⟩, .string ⟨#[]⟩, .slice (some ⟨w.heap.size + 1, 0, none⟩) 1 1] 26)) _ _ _ _ _ := (HF.out _).below ((Below.refl _ _).alloc (Nat.le_refl _) _)
  refine (HS.out _ _ (kids_one hf3 26 _ (by simp))).mono ?_
  rintro e w1 ⟨rfl, hb1⟩
  have hb1' := ((Below.refl _ _).alloc (Nat.le_refl _) (.cells #[.int .u8 11, .int .u8 0, .int .i64 0, .int .i64 0, .string ⟨#[]⟩, .string ⟨#[120]⟩, .string ⟨#[]⟩, .slice (some ⟨w.heap.size + 1, 0, none⟩) 1 1] 26)).trans (hb1.mono (by simp))
  have ht1 := hf3.below hb1'
  have HB1 := Lib.hid hb1'; have HT1 := Lib.hid ht1
  obtain ⟨c0, c1, c2, c3, c4, c5, c6, c7⟩ := box8 (N := w.heap.size + 1 + 1) (by simp) hb1'
  clear hf3 hb1 hb1' ht1
  go_wp2_with (fail)
  refine (HD.out _ _ (kids_one HT1.out 26 _ rfl)).mono ?_
  rintro e w2 ⟨rfl, hb2⟩
  have hb2' := below_row HB1.out hb2 HB1.out.size
  have ht2 := HT1.out.below (((Below.refl _ _).alloc (Nat.le_refl _) _).trans (hb2.mono (by simp)))
  have HB2 := Lib.hid hb2'; have HT2 := Lib.hid ht2
  clear hb2 ht2 c0 c1 c2 c3 c4 c5 c6 c7
  obtain ⟨c0, c1, c2, c3, c4, c5, c6, c7⟩ := box8 (N := w.heap.size + 1 + 1) (by simp) hb2'
  clear hb2'
  go_wp2_with (fail)
  refine (HM.out _ _ HT2.out (HKW.out.below ((HBOX.out _ _ _).trans (HB2.out.mono (HBOX.out _ _ _).size)))).mono ?_
  rintro e w3 ⟨rfl, hb3⟩
  have hb3' := below_then HB2.out hb3 HB2.out.size
  have ht3 := HT2.out.below hb3
  have HB3 := Lib.hid hb3'; have HT3 := Lib.hid ht3
  clear hb3 ht3 c0 c1 c2 c3 c4 c5 c6 c7
  obtain ⟨c0, c1, c2, c3, c4, c5, c6, c7⟩ := box8 (N := w.heap.size + 1 + 1) (by simp) hb3'
  clear hb3'
  go_wp2_with (fail)
  refine (HH.out _ _ (kids_one HT3.out 26 _ rfl)).mono ?_
  rintro e w4 ⟨rfl, hb4⟩
  have HB4 := Lib.hid (below_row HB3.out hb4 HB3.out.size)
  clear hb4 c0 c1 c2 c3 c4 c5 c6 c7
  go_wp2
  go_ret
  exact ⟨rfl, (HBOX.out _ _ _).trans (HB4.out.mono (HBOX.out _ _ _).size)⟩
end Term
end Go.Proofs.YtpedmaomogigmaaDoor
