/-The program's Sense, of a book. (Written by wip/tools/unsensem.py.) The program's Join of no book: it makes a new one, and goes on with that. The program's Sense, of no book. (Written by wip/tools/unsensenil.py.) The walks of the document's Great, May, Has, Size and Same of types. -/
import Derived.Test.YtjchplgapaeagaaDoorGV18
import Derived.Test.YtjchplgapaeagaaDoorGV20
import Derived.Test.YtjchplgapaeagaaDoorGV25
import Derived.Test.YtjchplgapaeagaaDoorGV04
import Derived.IntWalk
import Derived.StillTailTactics
namespace Go.Proofs.YtjchplgapaeagaaDoor
open Go.RowKit
set_option linter.unusedVariables false
set_option linter.unusedSimpArgs false
namespace Types

/-- How it ends: the number of the error, and the type. -/
def SmEnd (P : Nat → Bool) (k : Bk) (n : Nat) (g : Nat → Bool) (nm : Nat → Nat) (st : Nat → Option Ty) (r : Nat → Nat) (t : Ty) (most : Int) (w : World) (en : Ending) (w' : World) : Prop :=
  (∃ e', TBk P w' k none n e' g ∧ Rep e' nm st) ∧ Kp (fun b => decide (b ≠ k.s)) w w' ∧
    ((hasB n t = false ∧ en = .returned (.tuple #[.agg #[.int .u8 0, .int .i64 0, .slice none 0 0], .int .i64 1])) ∨
     (hasB n t = true ∧ most < (wt (inst (senB n nm st r) t) : Int) ∧ en = .returned (.tuple #[.agg #[.int .u8 0, .int .i64 0, .slice none 0 0], .int .i64 3])) ∨
     (hasB n t = true ∧ (wt (inst (senB n nm st r) t) : Int) ≤ most ∧ ∃ (h : Hd) (q : Option Addr) (l c : Nat), en = .returned (.tuple #[.agg #[.int .u8 h.k, .int .i64 h.v, .slice q l c], .int .i64 0]) ∧ TyIs (veil (from_ w.heap.size) w') h q l c (inst (senB n nm st r) t)))
set_option maxRecDepth 100000 in
set_option maxHeartbeats 6400000 in
theorem senseM_walk (P : Nat → Bool) (k : Bk) (n : Nat) (e : Nat → Option Ty) (g : Nat → Bool) (nm : Nat → Nat) (st : Nat → Option Ty) (r : Nat → Nat) (h : Hd) (p : Option Addr) (l c : Nat) (t : Ty) (most : Int) (w : World)
    (hT : TBk P w k none n e g) (hR : Rep e nm st) (hb : Bo n nm st g r) (hTw : TyIs w h p l c t) (hTy : TyIs (veil P w) h p l c t) (hkl : KidsLaid w) (hP : ∀ b, w.heap.size ≤ b → P b = false) (hn : n < 1000000000) (hwt : wt t ≤ 1000000) (hws : ∀ v t, st v = some t → wt t ≤ 1000000) (hoc : sumN n (fun p => (namesN nm st p).length) ≤ 2000000000000000000) (hmo : -9223372036854775808 ≤ most ∧ most ≤ 1000000000) :
    Calls Tryd.prog 18 #[.pointer (some ⟨k.b, 0, none⟩), .agg #[.int .u8 h.k, .int .i64 h.v, .slice p l c], .int .i64 most] w (SmEnd P k n g nm st r t most w) := by
  have hx : ∀ W, Below w.heap.size w W → Calls Tryd.prog 32 #[.pointer (some ⟨k.b, 0, none⟩), .agg #[.int .u8 h.k, .int .i64 h.v, .slice p l c]] W fun en w' => en = .returned (.bool (hasB n t)) ∧ Below W.heap.size W w' := fun W hW => has_walk k none n t h p l c W ((hW.block _ (lt_of_block hT.me.box)).trans hT.me.box) (hTw.below hW) (hkl.below hW)
  have b4 := al_new (W := w) (.cells #[.int .u8 h.k, .int .i64 h.v, .slice p l c] 25)
  have b6 := al_new (W := w.alloc (.cells #[.int .u8 h.k, .int .i64 h.v, .slice p l c] 25)) (.cells #[.int .u8 0, .int .i64 0, .slice none 0 0] 25)
  obtain ⟨W2, hW2⟩ : ∃ W2, (w.alloc (.cells #[.int .u8 h.k, .int .i64 h.v, .slice p l c] 25)).alloc (.cells #[.int .u8 0, .int .i64 0, .slice none 0 0] 25) = W2 := ⟨_, rfl⟩
  have hb2 : Below w.heap.size w W2 := by rw [← hW2]; exact (al_new _).alloc (by simp) _
  have hz2 : W2.heap.size = w.heap.size + 2 := by rw [← hW2]; simp
  have x0 : W2.heap[w.heap.size]? = some (.cells #[.int .u8 h.k, .int .i64 h.v, .slice p l c] 25 (0, 0)) := by rw [← hW2]; exact at_more (at_new rfl)
  have x1 : W2.heap[w.heap.size + 1]? = some (.cells #[.int .u8 0, .int .i64 0, .slice none 0 0] 25 (0, 0)) := by rw [← hW2]; exact at_new (by simp)
  have hhas := hx W2 hb2
  rw [← hW2] at hhas
  have HHAS := Lib.hid hhas; have HT := Lib.hid hT; have HR := Lib.hid hR; have HB := Lib.hid hb; have HTY := Lib.hid hTy; have HP := Lib.hid hP; have HN := Lib.hid hn; have HWT := Lib.hid hwt; have HWS := Lib.hid hws; have HOC := Lib.hid hoc; have HMO := Lib.hid hmo; have HB2 := Lib.hid hb2; have HZ2 := Lib.hid hz2; have HX := Lib.hid (And.intro x0 x1); have HW2 := Lib.hid hW2; have HLOW := Lib.hid hT.all_low.1
  clear hhas hT hR hb hTy hTw hkl hP hn hwt hws hoc hmo hb2 hz2 x0 x1 hW2 b4 b6 hx
  go_enter Tryd.func18, Tryd.ntmps18
  go_wp2_with (fail)
  refine HHAS.out.mono ?_
  rintro en w3 ⟨rfl, hb3⟩
  rw [HW2.out] at hb3
  have hbb : Below w.heap.size w w3 := HB2.out.trans (hb3.mono (by have := HZ2.out; omega))
  have hx1 := (hb3.block _ (by have := HZ2.out; omega)).trans HX.out.2
  have hx0 := (hb3.block _ (by have := HZ2.out; omega)).trans HX.out.1
  obtain ⟨⟨y0, y1, y2⟩, -, yl⟩ := c3 hx0
  have HBB := Lib.hid hbb; have HX1 := Lib.hid hx1; have HX0 := Lib.hid hx0
  clear hbb hx1 hx0 hb3 HHAS
  cases hh : hasB n t with
  | false =>
    have HH := Lib.hid hh
    clear hh
    obtain ⟨⟨g0, g1, g2⟩, ⟨gf0, gf1, gf2⟩, gl⟩ := c3 HX1.out
    go_wp2_with (fail)
    have hz := set3b (x := .int .u8 0) (y := .int .i64 0) (z := .slice none 0 0) HX1.out
    have hball : Below (w.heap.size + 1) w3 (((w3.setCell ⟨w.heap.size + 1, 0, none⟩ (.int .u8 0)).setCell ⟨w.heap.size + 1, 1, none⟩ (.int .i64 0)).setCell ⟨w.heap.size + 1, 2, none⟩ (.slice none 0 0)) := below_sets (Nat.le_refl _) 0 1 2 _ _ _
    generalize (((w3.setCell ⟨w.heap.size + 1, 0, none⟩ (.int .u8 0)).setCell ⟨w.heap.size + 1, 1, none⟩ (.int .i64 0)).setCell ⟨w.heap.size + 1, 2, none⟩ (.slice none 0 0)) = w9 at *
    clear g0 g1 g2 gf0 gf1 gf2 gl
    obtain ⟨⟨g0, g1, g2⟩, -, gl⟩ := c3 hz
    have hb9 : Below w.heap.size w3 w9 := hball.mono (Nat.le_succ _)
    refine bodyPost_ret (v := .tuple #[.agg #[.int .u8 0, .int .i64 0, .slice none 0 0], .int .i64 1]) (by simp [results, Tryd.results18, go_sem, g0, g1, g2, gl]) rfl ?_
    exact ⟨⟨e, (HT.out.below HBB.out).low hb9 HP.out HLOW.out (fun x hx => by cases hx), HR.out⟩, (Kp.of_below HBB.out).low hb9, .inl ⟨HH.out, rfl⟩⟩
  | true =>
    obtain ⟨hm, hv⟩ := has_facts hh
    have hfw := ufits_walk P k n e g nm st r h p l c t most w3 (HT.out.below HBB.out) HR.out HB.out ((Kp.of_below (P := P) HBB.out).ty HTY.out) hm hv (fun b hb => HP.out b (Nat.le_trans HBB.out.size hb)) HN.out HWT.out HWS.out HOC.out (by have := HMO.out; omega)
    have HFW := Lib.hid hfw; have HH := Lib.hid hh; have HMV := Lib.hid (And.intro hm hv)
    clear hfw hh hm hv
    go_wp2_with (fail)
    refine HFW.out.mono ?_
    rintro en w4 ⟨rfl, ⟨e4, hT4, hR4⟩, hk4⟩
    have hx1 := (hk4.block _ (lt_of_block HX1.out) (ne_true (by have := HLOW.out; omega))).trans HX1.out
    have hx0 := (hk4.block _ (lt_of_block HX0.out) (ne_true (by have := HLOW.out; omega))).trans HX0.out
    have hty4 : TyIs (veil P w4) h p l c t := (hk4.mono (P' := P) fun b hb => decide_eq_true fun e => by subst e; rw [HT.out.me.ps] at hb; cases hb).ty ((Kp.of_below (P := P) HBB.out).ty HTY.out)
    have HX4 := Lib.hid hx1; have HX5 := Lib.hid hx0; have HT4 := Lib.hid hT4; have HR4 := Lib.hid hR4; have HK4 := Lib.hid ((Kp.of_below (P := fun b => decide (b ≠ k.s)) HBB.out).trans hk4); have HTY4 := Lib.hid hty4
    clear hx1 hx0 hT4 hR4 hk4 hty4 y0 y1 y2 yl HX1 HX0 HFW
    obtain ⟨⟨y0, y1, y2⟩, -, yl⟩ := c3 HX5.out
    rcases Int.lt_or_le most (wt (inst (senB n nm st r) t) : Int) with hlt | hle
    · have hd : decide ((wt (inst (senB n nm st r) t) : Int) ≤ most) = false := decide_eq_false (by omega)
      rw [hd]
      have HLT := Lib.hid hlt
      clear hlt hd
      obtain ⟨⟨g0, g1, g2⟩, ⟨gf0, gf1, gf2⟩, gl⟩ := c3 HX4.out
      go_wp2_with (fail)
      have hz := set3b (x := .int .u8 0) (y := .int .i64 0) (z := .slice none 0 0) HX4.out
      have hball : Below (w.heap.size + 1) w4 (((w4.setCell ⟨w.heap.size + 1, 0, none⟩ (.int .u8 0)).setCell ⟨w.heap.size + 1, 1, none⟩ (.int .i64 0)).setCell ⟨w.heap.size + 1, 2, none⟩ (.slice none 0 0)) := below_sets (Nat.le_refl _) 0 1 2 _ _ _
      generalize (((w4.setCell ⟨w.heap.size + 1, 0, none⟩ (.int .u8 0)).setCell ⟨w.heap.size + 1, 1, none⟩ (.int .i64 0)).setCell ⟨w.heap.size + 1, 2, none⟩ (.slice none 0 0)) = w9 at *
      clear g0 g1 g2 gf0 gf1 gf2 gl
      obtain ⟨⟨g0, g1, g2⟩, -, gl⟩ := c3 hz
      have hb9 : Below w.heap.size w4 w9 := hball.mono (Nat.le_succ _)
      refine bodyPost_ret (v := .tuple #[.agg #[.int .u8 0, .int .i64 0, .slice none 0 0], .int .i64 3]) (by simp [results, Tryd.results18, go_sem, g0, g1, g2, gl]) rfl ?_
      exact ⟨⟨e4, HT4.out.low hb9 HP.out HLOW.out (fun x hx => by cases hx), HR4.out⟩, HK4.out.low hb9, .inr (.inl ⟨HH.out, HLT.out, rfl⟩)⟩
    · have hd : decide ((wt (inst (senB n nm st r) t) : Int) ≤ most) = true := decide_eq_true hle
      rw [hd]
      have hsw := sense_walk P k n e4 g nm st r h p l c t w4 HT4.out HR4.out HB.out HTY4.out HMV.out.1 HMV.out.2 (fun b hb => HP.out b (Nat.le_trans HK4.out.size hb)) HN.out (by have := HMO.out; omega)
      have HLE := Lib.hid hle; have HSW := Lib.hid hsw
      clear hle hd hsw
      go_wp2_with (fail)
      refine HSW.out.mono ?_
      rintro en w5 ⟨h5, q5, l5, c5, rfl, hty5, ⟨e5, hT5, hR5⟩, hk5⟩
      have hx1 := (hk5.block _ (lt_of_block HX4.out) (ne_true (by have := HLOW.out; omega))).trans HX4.out
      have HX6 := Lib.hid hx1; have HT5 := Lib.hid hT5; have HR5 := Lib.hid hR5; have HK5 := Lib.hid (HK4.out.trans hk5); have HTY5 := Lib.hid hty5; have HZ4 := Lib.hid (lt_of_block HX4.out)
      clear hx1 hT5 hR5 hk5 hty5 y0 y1 y2 yl HSW
      obtain ⟨⟨g0, g1, g2⟩, ⟨gf0, gf1, gf2⟩, gl⟩ := c3 HX6.out
      go_wp2_with (fail)
      have hz := set3b (x := .int .u8 h5.k) (y := .int .i64 h5.v) (z := .slice q5 l5 c5) HX6.out
      have hball : Below (w.heap.size + 1) w5 (((w5.setCell ⟨w.heap.size + 1, 0, none⟩ (.int .u8 h5.k)).setCell ⟨w.heap.size + 1, 1, none⟩ (.int .i64 h5.v)).setCell ⟨w.heap.size + 1, 2, none⟩ (.slice q5 l5 c5)) := below_sets (Nat.le_refl _) 0 1 2 _ _ _
      have hoth : ∀ b', b' ≠ w.heap.size + 1 → (((w5.setCell ⟨w.heap.size + 1, 0, none⟩ (.int .u8 h5.k)).setCell ⟨w.heap.size + 1, 1, none⟩ (.int .i64 h5.v)).setCell ⟨w.heap.size + 1, 2, none⟩ (.slice q5 l5 c5)).heap[b']? = w5.heap[b']? := fun b' e => (Below.heap_setCell _ _ _ _ e).trans ((Below.heap_setCell _ _ _ _ e).trans (Below.heap_setCell _ _ _ _ e))
      generalize (((w5.setCell ⟨w.heap.size + 1, 0, none⟩ (.int .u8 h5.k)).setCell ⟨w.heap.size + 1, 1, none⟩ (.int .i64 h5.v)).setCell ⟨w.heap.size + 1, 2, none⟩ (.slice q5 l5 c5)) = w9 at *
      clear g0 g1 g2 gf0 gf1 gf2 gl
      obtain ⟨⟨g0, g1, g2⟩, -, gl⟩ := c3 hz
      have hb9 : Below w.heap.size w5 w9 := hball.mono (Nat.le_succ _)
      refine bodyPost_ret (v := .tuple #[.agg #[.int .u8 h5.k, .int .i64 h5.v, .slice q5 l5 c5], .int .i64 0]) (by simp [results, Tryd.results18, go_sem, g0, g1, g2, gl]) rfl ?_
      refine ⟨⟨e5, HT5.out.low hb9 HP.out HLOW.out (fun x hx => by cases hx), HR5.out⟩, HK5.out.low hb9, .inr (.inr ⟨HH.out, HLE.out, h5, q5, l5, c5, rfl, HTY5.out.reads' (veil_to fun b _ hp => ?_)⟩)⟩
      have hp : w4.heap.size ≤ b := of_decide_eq_true hp
      have hz4 := HZ4.out
      exact ⟨decide_eq_true (by omega), (hoth b (by omega))⟩
end Types
end Go.Proofs.YtjchplgapaeagaaDoor
namespace Go.Proofs.YtjchplgapaeagaaDoor
open Go.RowKit
set_option linter.unusedVariables false
set_option linter.unusedSimpArgs false
namespace Types

theorem rep_new : Rep (fun _ => none) (fun v => v) (fun _ => none) := ⟨fun v _ => ⟨rfl, rfl⟩, fun v w h => (by cases h), fun v t h => (by cases h), fun v t h => (by cases h)⟩
theorem bo_new (g : Nat → Bool) : Bo 0 (fun v => v) (fun _ => none) g (fun _ => 0) := ⟨fun v => Nat.le_refl _, fun v => rfl, fun v _ => ⟨rfl, rfl⟩, fun v t h => (by cases h), fun v t h => (by cases h), fun v t h => (by cases h)⟩
theorem sumN_none : ∀ n, sumN n (wT fun _ => none) = 0
  | 0 => rfl
  | n + 1 => by
    show sumN n (wT fun _ => none) + wT (fun _ => none) n = 0
    rw [sumN_none n]; rfl
/-- All blocks but the new book's. -/
def PN (S b : Nat) : Bool := decide (b < S ∨ S + 3 ≤ b)
theorem pn_reads {w w1 : World} {S : Nat} (hS : w.heap.size ≤ S) (hb : Below w.heap.size w w1) : Reads w (veil (PN S) w1) := fun a v hv => by
  have hlt := World.block_lt_of_cell? w a hv
  rw [World.cell?_of_block (veil_at (decide_eq_true (.inl (by omega)))), hb.cell hlt]
  exact hv
def NilEnd (ts : List Ty) (w : World) (en : Ending) (w' : World) : Prop :=
  Below w.heap.size w w' ∧
    ((en = .returned (.bool false) ∧ ((ts.any fun s => !hasB 0 s) = true ∨ ∀ θ, ¬ AllOne ts θ)) ∨
     (en = .returned (.bool true) ∧ (ts.any fun s => !hasB 0 s) = false ∧ ∃ θ, AllOne ts θ))
theorem nil_end {ts : List Ty} {w w0 w1 w2 : World} {en : Ending} (hb : Below w.heap.size w w1) (h : JoinEnd (PN w0.heap.size) ⟨w0.heap.size + 2, w0.heap.size, w0.heap.size + 1⟩ 0 (fun v => v) (fun _ => none) (fun _ => 0) ts w1 en w2) (hS : w.heap.size ≤ w0.heap.size) : NilEnd ts w en w2 := by
  obtain ⟨hk, h⟩ := h
  have hsol : ∀ θ, SolA (fun v => v) (fun _ => none) θ := fun θ => ⟨fun v => rfl, fun v t h => (by cases h)⟩
  refine ⟨⟨hk.os.trans hb.os, hk.tape.trans hb.tape, hk.output.trans hb.output, Nat.le_trans hb.size hk.size, fun b hlt => (hk.block b (Nat.lt_of_lt_of_le hlt hb.size) (decide_eq_true ⟨by show b ≠ w0.heap.size; omega, by show b ≠ w0.heap.size + 1; omega⟩)).trans (hb.block b hlt)⟩, ?_⟩
  rcases h with ⟨he, _, h⟩ | ⟨he, h1, _, _, _, _, _, _, _, h2, h3, _⟩
  · exact .inl ⟨he, h.imp _root_.id fun h θ hθ => h θ ⟨hsol θ, hθ⟩⟩
  · exact .inr ⟨he, h1, _, ((h3 _).1 h2.isSen.is).2⟩
set_option maxRecDepth 100000 in
set_option maxHeartbeats 6400000 in
theorem joinnil_walk (ts : List Ty) (p : Option Addr) (l d : Nat) (w : World) (hK : Kids w p ts) (hl : ts.length = l) (hkl : KidsLaid w) (hbud : nvK ts + l + 8 < 400000000) :
    Calls Tryd.prog 17 #[.pointer none, .slice p l d] w (NilEnd ts w) := by
  have hb0 : ∀ O, Below w.heap.size w (w.alloc O) := fun O => al_new O
  have hz0 : ∀ O, (w.alloc O).heap.size = w.heap.size + 1 := fun O => by simp
  have hnw := fun O : Obj => new_walk (PN (w.alloc O).heap.size) (w.alloc O) (decide_eq_false (by omega)) (decide_eq_false (by omega)) (decide_eq_false (by omega))
  have HNW := Lib.hid hnw; have HB0 := Lib.hid hb0; have HZ0 := Lib.hid hz0; have HK := Lib.hid hK; have HL := Lib.hid hl; have HKL := Lib.hid hkl; have HBUD := Lib.hid hbud
  clear hnw hb0 hz0 hK hl hkl hbud
  go_enter Tryd.func17, Tryd.ntmps17
  go_wp2_with (fail)
  refine (HNW.out _).mono ?_
  rintro en w1 ⟨rfl, hb1, hB1, hs1⟩
  obtain ⟨w0, hw0⟩ : ∃ w0, w0 = w.alloc (.cells #[.pointer none] 28) := ⟨_, rfl⟩
  have hz : w0.heap.size = w.heap.size + 1 := by rw [hw0]; simp
  have hbw : Below w.heap.size w w0 := by rw [hw0]; exact al_new _
  rw [← hw0] at hb1 hB1 hs1 ⊢
  have hbb : Below w.heap.size w w1 := hbw.trans (hb1.mono (by omega))
  have hjw := join_walk (PN w0.heap.size) ⟨w0.heap.size + 2, w0.heap.size, w0.heap.size + 1⟩ 0 (fun _ => none) (fun _ => false) (fun v => v) (fun _ => none) (fun _ => 0) ts p l d w1
    ⟨hB1, trivial⟩ rep_new (bo_new _) (fun b hb => decide_eq_true (by omega)) (HK.out.reads' (Reads.of_below hbb)) (HK.out.reads' (pn_reads (by omega) hbb)) HL.out (HKL.out.below hbb) (by rw [show sumN 0 (wT fun _ => none) = 0 from rfl]; have := HBUD.out; omega)
  have HJW := Lib.hid hjw; have HBB := Lib.hid hbb; have HZ := Lib.hid hz
  clear hjw hbb hz hbw hb1 hB1 hs1 hw0
  go_wp2_with (fail)
  refine HJW.out.mono ?_
  intro en w2 hend
  have hfin := nil_end HBB.out hend (by have := HZ.out; omega)
  obtain ⟨bb, rfl⟩ : ∃ bb, en = .returned (.bool bb) := by
    rcases hfin.2 with ⟨h, _⟩ | ⟨h, _⟩
    · exact ⟨_, h⟩
    · exact ⟨_, h⟩
  have HFIN := Lib.hid hfin
  clear hfin hend HJW
  go_wp2_with (fail)
  exact bodyPost_ret (by simp [results, Tryd.results17, go_sem]) rfl HFIN.out
end Types
end Go.Proofs.YtjchplgapaeagaaDoor
namespace Go.Proofs.YtjchplgapaeagaaDoor
open Go.RowKit
set_option linter.unusedVariables false
set_option linter.unusedSimpArgs false
namespace Types

/-- What lay ahead of the new book. -/
def PL (S b : Nat) : Bool := decide (b < S)
theorem pl_reads {w w1 : World} {S : Nat} (hS : w.heap.size ≤ S) (hb : Below w.heap.size w w1) : Reads w (veil (PL S) w1) := fun a v hv => by
  have hlt := World.block_lt_of_cell? w a hv
  rw [World.cell?_of_block (veil_at (decide_eq_true (by omega))), hb.cell hlt]
  exact hv
def sen0 (t : Ty) : Ty := inst (senB 0 (fun v => v) (fun _ => none) (fun _ => 0)) t
def SnilEnd (t : Ty) (most : Int) (w : World) (en : Ending) (w' : World) : Prop :=
  Below w.heap.size w w' ∧
    ((hasB 0 t = false ∧ en = .returned (.tuple #[.agg #[.int .u8 0, .int .i64 0, .slice none 0 0], .int .i64 1])) ∨
     (hasB 0 t = true ∧ most < (wt (sen0 t) : Int) ∧ en = .returned (.tuple #[.agg #[.int .u8 0, .int .i64 0, .slice none 0 0], .int .i64 3])) ∨
     (hasB 0 t = true ∧ (wt (sen0 t) : Int) ≤ most ∧ ∃ (h : Hd) (q : Option Addr) (l c : Nat), en = .returned (.tuple #[.agg #[.int .u8 h.k, .int .i64 h.v, .slice q l c], .int .i64 0]) ∧ TyIs (veil (from_ (w.heap.size + 2)) w') h q l c (sen0 t)))
theorem sm_parts {P : Nat → Bool} {k : Bk} {n : Nat} {g : Nat → Bool} {nm : Nat → Nat} {st : Nat → Option Ty} {r : Nat → Nat} {t : Ty} {most : Int} {w : World} {en : Ending} {w' : World} (h : SmEnd P k n g nm st r t most w en w') : ∃ (a b : Int) (q : Option Addr) (l c : Nat) (cd : Int), en = .returned (.tuple #[.agg #[.int .u8 a, .int .i64 b, .slice q l c], .int .i64 cd]) := by
  rcases h.2.2 with ⟨_, e⟩ | ⟨_, _, e⟩ | ⟨_, _, h, q, l, c, e, _⟩
  · exact ⟨0, 0, none, 0, 0, 1, e⟩
  · exact ⟨0, 0, none, 0, 0, 3, e⟩
  · exact ⟨h.k, h.v, q, l, c, 0, e⟩
set_option maxRecDepth 100000 in
set_option maxHeartbeats 6400000 in
theorem sensenil_walk (h : Hd) (p : Option Addr) (l c : Nat) (t : Ty) (most : Int) (w : World) (hTw : TyIs w h p l c t) (hkl : KidsLaid w) (hwt : wt t ≤ 1000000) (hmo : -9223372036854775808 ≤ most ∧ most ≤ 1000000000) :
    Calls Tryd.prog 18 #[.pointer none, .agg #[.int .u8 h.k, .int .i64 h.v, .slice p l c], .int .i64 most] w (SnilEnd t most w) := by
  obtain ⟨W2, hW2⟩ : ∃ W2, (w.alloc (.cells #[.int .u8 h.k, .int .i64 h.v, .slice p l c] 25)).alloc (.cells #[.int .u8 0, .int .i64 0, .slice none 0 0] 25) = W2 := ⟨_, rfl⟩
  have hb2 : Below w.heap.size w W2 := by rw [← hW2]; exact (al_new _).alloc (by simp) _
  have hz2 : W2.heap.size = w.heap.size + 2 := by rw [← hW2]; simp
  have x0 : W2.heap[w.heap.size]? = some (.cells #[.int .u8 h.k, .int .i64 h.v, .slice p l c] 25 (0, 0)) := by rw [← hW2]; exact at_more (at_new rfl)
  have x1 : W2.heap[w.heap.size + 1]? = some (.cells #[.int .u8 0, .int .i64 0, .slice none 0 0] 25 (0, 0)) := by rw [← hW2]; exact at_new (by simp)
  have hnw := new_walk (PL W2.heap.size) W2.drew (decide_eq_false (by show ¬ (W2.heap.size < W2.heap.size); omega)) (decide_eq_false (by show ¬ (W2.heap.size + 1 < W2.heap.size); omega)) (decide_eq_false (by show ¬ (W2.heap.size + 2 < W2.heap.size); omega))
  have HNW := Lib.hid hnw; have HTW := Lib.hid hTw; have HKL := Lib.hid hkl; have HWT := Lib.hid hwt; have HMO := Lib.hid hmo; have HB2 := Lib.hid hb2; have HZ2 := Lib.hid hz2; have HX := Lib.hid (And.intro x0 x1); have HW2 := Lib.hid hW2
  clear hnw hTw hkl hwt hmo hb2 hz2 x0 x1 hW2
  go_enter Tryd.func18, Tryd.ntmps18
  go_upto_region 2 with (fail)
  rw [HW2.out]
  refine wp_region_held_drew (S := fun V => ∀ b, b < w.heap.size + 2 → b ≠ w.heap.size + 1 → V.heap[b]? = W2.heap[b]?) (by kernel_rfl) (fun _ _ _ => rfl) (fun hHeld => ?_)
  refine wpAnyH_take (i := 1) (v := .agg #[.int .u8 h.k, .int .i64 h.v, .slice p l c]) rfl (by kernel_rfl) (by kernel_rfl) (by kernel_rfl) (fun _ _ _ h => h) (Or.inl ⟨by rfl, ?_⟩) (by assumption) ?_
  · intro w' hSw
    obtain ⟨⟨d0, d1, d2⟩, -, dl⟩ := c3 ((hSw _ (by omega) (by omega)).trans HX.out.1)
    first | (go_simp; done) | (go_simp; intro h0; omega) | rfl
  try simp only [Act.put, List.getElem_toArray, List.getElem_cons_succ, List.getElem_cons_zero, List.setIfInBounds_toArray, List.set_cons_zero, List.set_cons_succ]
  refine wpAnyH_take (i := 2) (v := .int .i64 most) rfl (by kernel_rfl) (by kernel_rfl) (by kernel_rfl) (fun _ _ _ h => h) (Or.inl ⟨by rfl, ?_⟩) (by assumption) ?_
  · intro w' hSw
    first | (go_simp; done) | (go_simp; intro h0; omega) | rfl
  try simp only [Act.put, List.getElem_toArray, List.getElem_cons_succ, List.getElem_cons_zero, List.setIfInBounds_toArray, List.set_cons_zero, List.set_cons_succ]
  refine wpAnyH_ready (rs := [0]) (by kernel_rfl) (by simp) ?_
  refine AllReadyH.cons rfl (fun K hK => ?_) AllReadyH.nil
  have HK2 := Lib.hid hK
  clear hK
  try rw [if_pos (by rfl)]
  go_simp
  refine HNW.out.mono ?_
  rintro en w1 ⟨rfl, hb1, hB1, hs1⟩
  have hb1 : Below W2.heap.size W2 w1 := ⟨hb1.os, hb1.tape, hb1.output, hb1.size, hb1.block⟩
  have hs1 : w1.heap.size = W2.heap.size + 3 := hs1
  have hbb : Below w.heap.size w w1 := HB2.out.trans (hb1.mono (by have := HZ2.out; omega))
  have hsw := senseM_walk (PL W2.heap.size) ⟨W2.heap.size + 2, W2.heap.size, W2.heap.size + 1⟩ 0 (fun _ => none) (fun _ => false) (fun v => v) (fun _ => none) (fun _ => 0) h p l c t most w1 ⟨hB1, trivial⟩ rep_new (bo_new _) (HTW.out.below hbb) (HTW.out.reads' (pl_reads (by have := HZ2.out; omega) hbb)) (HKL.out.below hbb) (fun b hb => decide_eq_false (by have := hs1; omega)) (by omega) HWT.out (fun v t h => by cases h) (by show sumN 0 _ ≤ _; exact Nat.zero_le _) HMO.out
  have HSW := Lib.hid hsw; have HB1 := Lib.hid hb1; have HS1 := Lib.hid hs1; have HBB := Lib.hid hbb
  clear hsw hb1 hs1 hbb hB1 HNW
  refine HK2.out _ _ (fun b hb _ => HB1.out.block b (by have := HZ2.out; omega)) (fun hHeld => ?_)
  clear HK2
  try simp only [Act.put, List.getElem_toArray, List.getElem_cons_succ, List.getElem_cons_zero, List.setIfInBounds_toArray, List.set_cons_zero, List.set_cons_succ]
  clear K
  refine wpAnyH_ready (rs := [3]) (by kernel_rfl) (by simp) ?_
  refine AllReadyH.cons rfl (fun K hK => ?_) AllReadyH.nil
  have HK2 := Lib.hid hK
  clear hK
  try rw [if_pos (by rfl)]
  go_simp
  refine HSW.out.mono ?_
  intro en w2 hend
  obtain ⟨a, b, q2, l2, c2, cd, rfl⟩ := sm_parts hend
  have hkb : ∀ b, b < w.heap.size + 2 → w2.heap[b]? = W2.heap[b]? := fun b hb => (hend.2.1.block b (by have := HS1.out; have := HZ2.out; omega) (decide_eq_true (by show b ≠ W2.heap.size; have := HZ2.out; omega))).trans (HB1.out.block b (by have := HZ2.out; omega))
  have HEND := Lib.hid hend; have HKB := Lib.hid hkb
  clear hend hkb HSW
  refine HK2.out _ _ (fun b hb _ => HKB.out b hb) (fun hHeld => ?_)
  clear HK2
  try simp only [Act.put, List.getElem_toArray, List.getElem_cons_succ, List.getElem_cons_zero, List.setIfInBounds_toArray, List.set_cons_zero, List.set_cons_succ]
  clear K
  refine wpAnyH_take (i := 4) (v := .agg #[.int .u8 a, .int .i64 b, .slice q2 l2 c2]) rfl (by kernel_rfl) (by kernel_rfl) (by kernel_rfl) (fun _ _ _ h => h) (Or.inl ⟨by rfl, ?_⟩) (by assumption) ?_
  · intro w' hSw
    first | (go_simp; done) | (go_simp; intro h0; omega) | rfl
  try simp only [Act.put, List.getElem_toArray, List.getElem_cons_succ, List.getElem_cons_zero, List.setIfInBounds_toArray, List.set_cons_zero, List.set_cons_succ]
  refine wpAnyH_take (i := 5) (v := .int .i64 cd) rfl (by kernel_rfl) (by kernel_rfl) (by kernel_rfl) (fun _ _ _ h => h) (Or.inl ⟨by rfl, ?_⟩) (by assumption) ?_
  · intro w' hSw
    first | (go_simp; done) | (go_simp; intro h0; omega) | rfl
  try simp only [Act.put, List.getElem_toArray, List.getElem_cons_succ, List.getElem_cons_zero, List.setIfInBounds_toArray, List.set_cons_zero, List.set_cons_succ]
  refine wpAnyH_ready (rs := [6]) (by kernel_rfl) (by simp) ?_
  refine AllReadyH.cons rfl (fun K hK => ?_) AllReadyH.nil
  have HK2 := Lib.hid hK
  clear hK
  try rw [if_pos (by rfl)]
  obtain ⟨⟨g0, g1, g2⟩, ⟨gf0, gf1, gf2⟩, gl⟩ := c3 ((HKB.out _ (by omega)).trans HX.out.2)
  go_simp
  have hz := set3b (x := .int .u8 a) (y := .int .i64 b) (z := .slice q2 l2 c2) ((HKB.out _ (by omega)).trans HX.out.2)
  have hoth : ∀ b', b' ≠ w.heap.size + 1 → (((w2.setCell ⟨w.heap.size + 1, 0, none⟩ (.int .u8 a)).setCell ⟨w.heap.size + 1, 1, none⟩ (.int .i64 b)).setCell ⟨w.heap.size + 1, 2, none⟩ (.slice q2 l2 c2)).heap[b']? = w2.heap[b']? := fun b' e => (Below.heap_setCell _ _ _ _ e).trans ((Below.heap_setCell _ _ _ _ e).trans (Below.heap_setCell _ _ _ _ e))
  have hb9 : Below w.heap.size w2 (((w2.setCell ⟨w.heap.size + 1, 0, none⟩ (.int .u8 a)).setCell ⟨w.heap.size + 1, 1, none⟩ (.int .i64 b)).setCell ⟨w.heap.size + 1, 2, none⟩ (.slice q2 l2 c2)) := below_sets (by omega) 0 1 2 _ _ _
  clear g0 g1 g2 gf0 gf1 gf2 gl
  generalize (((w2.setCell ⟨w.heap.size + 1, 0, none⟩ (.int .u8 a)).setCell ⟨w.heap.size + 1, 1, none⟩ (.int .i64 b)).setCell ⟨w.heap.size + 1, 2, none⟩ (.slice q2 l2 c2)) = w9 at *
  have HZ9 := Lib.hid hz; have HO9 := Lib.hid hoth; have HB9 := Lib.hid hb9
  clear hz hoth hb9
  refine HK2.out _ _ (fun b hb hne => (HO9.out b hne).trans (HKB.out b hb)) (fun hHeld => ?_)
  clear HK2
  try simp only [Act.put, List.getElem_toArray, List.getElem_cons_succ, List.getElem_cons_zero, List.setIfInBounds_toArray, List.set_cons_zero, List.set_cons_succ]
  clear K
  refine wpAnyH_take (i := 7) (v := .int .i64 cd) rfl (by kernel_rfl) (by kernel_rfl) (by kernel_rfl) (fun _ _ _ h => h) (Or.inl ⟨by rfl, ?_⟩) (by assumption) ?_
  · intro w' hSw
    first | (go_simp; done) | (go_simp; intro h0; omega) | rfl
  try simp only [Act.put, List.getElem_toArray, List.getElem_cons_succ, List.getElem_cons_zero, List.setIfInBounds_toArray, List.set_cons_zero, List.set_cons_succ]
  refine wpAnyH_done (by kernel_rfl) ?_ _
  clear hHeld
  have hfin : SnilEnd t most w (.returned (.tuple #[.agg #[.int .u8 a, .int .i64 b, .slice q2 l2 c2], .int .i64 cd])) w9 := by
    have h2 := HEND.out
    have hs1 := HS1.out
    have hz2 := HZ2.out
    refine ⟨⟨HB9.out.os.trans (h2.2.1.os.trans HBB.out.os), HB9.out.tape.trans (h2.2.1.tape.trans HBB.out.tape), HB9.out.output.trans (h2.2.1.output.trans HBB.out.output), Nat.le_trans HBB.out.size (Nat.le_trans h2.2.1.size HB9.out.size), fun b' hb' => (HB9.out.block b' hb').trans ((h2.2.1.block b' (by omega) (decide_eq_true (by show b' ≠ W2.heap.size; omega))).trans (HBB.out.block b' hb'))⟩, ?_⟩
    rcases h2.2.2 with ⟨x1, e⟩ | ⟨x1, x2, e⟩ | ⟨x1, x2, h5, q5, l5, c5, e, x3⟩
    · exact .inl ⟨x1, e⟩
    · exact .inr (.inl ⟨x1, x2, e⟩)
    · exact .inr (.inr ⟨x1, x2, h5, q5, l5, c5, e, x3.reads' (veil_to fun b' _ hp => by
        have hp : w1.heap.size ≤ b' := of_decide_eq_true hp
        exact ⟨decide_eq_true (by omega), HO9.out b' (by omega)⟩)⟩)
  have HFIN := Lib.hid hfin
  clear hfin
  obtain ⟨⟨g0, g1, g2⟩, -, gl⟩ := c3 HZ9.out
  go_wp2_with (fail)
  exact bodyPost_ret (by simp [results, Tryd.results18, go_sem, g0, g1, g2, gl]) rfl HFIN.out
end Types
end Go.Proofs.YtjchplgapaeagaaDoor
namespace Go.Proofs.YtjchplgapaeagaaDoor
open Go.RowKit
set_option linter.unusedVariables false
namespace Types

theorem cap63 {w : World} {h : Hd} {p : Option Addr} {l c : Nat} {t : Ty} (hT : TyIs w h p l c t) : l ≤ 9223372036854775807 := by have := hT.cap; unfold maxLen at this; omega
set_option maxRecDepth 10000 in
set_option maxHeartbeats 3200000 in
theorem refLeft_walk : ∀ (m : Nat) (t : Ty) (h : Hd) (p : Option Addr) (l c : Nat) (n : Int) (w : World), wt t ≤ m → TyIs w h p l c t → 0 ≤ n → n ≤ 400 →
    Calls Tryd.prog 40 #[.agg #[.int .u8 h.k, .int .i64 h.v, .slice p l c], .int .i64 n] w fun e w' => e = .returned (.int .i64 (leftT t n)) ∧ Below w.heap.size w w' := by
  intro m
  induction m with
  | zero => intro t h p l c n w hm; have := wt_pos t; omega
  | succ m ih =>
    intro t h p l c n w hm hT hn0 hn1
    have hle := leftT_eq t n
    obtain ⟨k, v⟩ := h
    have hlc := cap63 hT
    have hbox : ∀ O : Obj, Below w.heap.size w (w.alloc O) := fun O => box_new O
    have HBOX := Lib.hid hbox; have IH := Lib.hid ih; have HT := Lib.hid hT; have HM := Lib.hid hm; have HLE := Lib.hid hle
    clear ih hT hm hbox hle
    go_enter Tryd.func40, Tryd.ntmps40
    go_wp2_with (fail)
    go_loopw [1, 5] (fun N i wr => ∃ (j : Nat) (M : Int), j ≤ l ∧ i = .int .i64 j ∧ N = .int .i64 M ∧ -1 ≤ M ∧ M ≤ 400 ∧ Hid (leftK t.ks (n - 1) = leftK (t.ks.drop j) M) ∧
      Hid (Below (w.alloc (.cells #[.int .u8 k, .int .i64 v, .slice p l c] 25)).heap.size (w.alloc (.cells #[.int .u8 k, .int .i64 v, .slice p l c] 25)) wr)) (fun _ i _ => l - (intOf i).toNat)
    case atStart => exact ⟨0, n - 1, Nat.zero_le _, rfl, rfl, by omega, by omega, Lib.hid (by rw [List.drop_zero]), Lib.hid (Below.refl _ _)⟩
    case round =>
      obtain ⟨j, M, hj, rfl, rfl, hM0, hM1, HLK, HW⟩ := hrel
      obtain ⟨b0, b1, b2⟩ := box3 (N := w.heap.size) rfl HW.out
      have HWW := Lib.hid ((HBOX.out _).trans (HW.out.mono (HBOX.out _).size))
      by_cases hlt : j < l
      · by_cases hneg : M < 0
        · have hr := HLK.out
          rw [leftK_neg _ _ hneg] at hr
          have HR := Lib.hid hr; clear hr
          go_wp2_with (fail)
          go_ret
          exact ⟨ret_i64 (by rw [HLE.out, HR.out]), HWW.out⟩
        · have hjk : j < t.ks.length := by rw [HT.out.len]; exact hlt
          have hst := HLK.out
          rw [leftK_step _ _ _ hjk hneg] at hst
          obtain ⟨b, o, q, c', rfl, hkid, c0, c1, c2⟩ := (HT.out.kids.stay HWW.out).get j hjk
          have hwk := wts_get hjk
          have hwt := wt_ks t
          have hlr1 := (left_range (wt (tget t.ks j))).1 (tget t.ks j) M (Nat.le_refl _) (by omega)
          have HST := Lib.hid hst; have HK := Lib.hid hkid
          have HWK := Lib.hid hwk; have HWT := Lib.hid hwt; have HLR := Lib.hid hlr1
          clear hst hkid hwk hwt hlr1 hjk
          go_wp2_with (fail)
          refine (IH.out (tget t.ks j) _ q _ c' M _ (by have := HM.out; have := HWK.out; have := HWT.out; omega) HK.out (by omega) hM1).mono ?_
          rintro e w2 ⟨rfl, hb2⟩
          have HW2 := Lib.hid (HW.out.trans (hb2.mono HW.out.size))
          clear hb2 b0 b1 b2 c0 c1 c2
          have hx0 : -1 ≤ leftT (tget t.ks j) M := HLR.out.1
          have hx1 : leftT (tget t.ks j) M ≤ 400 := by have := HLR.out.2; omega
          generalize hX : leftT (tget t.ks j) M = X at *
          have HX := Lib.hid hX; clear hX
          go_wp2
          go_roundw
          case rel => exact ⟨j + 1, X, by omega, by go_num, rfl, hx0, hx1, HST, HW2⟩
          case measure => simp [intOf]; omega
      · obtain rfl : j = l := by omega
        have hr := HLK.out
        rw [List.drop_eq_nil_of_le (by rw [HT.out.len]; exact Nat.le_refl _), leftK_nil] at hr
        have HR := Lib.hid hr; clear hr
        go_wp2_with (fail)
        go_ret
        exact ⟨ret_i64 (by rw [HLE.out, HR.out]), HWW.out⟩
theorem great_walk (t : Ty) (h : Hd) (p : Option Addr) (l c : Nat) (w : World) (hT : TyIs w h p l c t) :
    Calls Tryd.prog 23 #[.agg #[.int .u8 h.k, .int .i64 h.v, .slice p l c]] w fun e w' => e = .returned (.bool (greatB t)) ∧ Below w.heap.size w w' := by
  obtain ⟨k, v⟩ := h
  have hbox : ∀ O : Obj, Below w.heap.size w (w.alloc O) := fun O => box_new O
  have HBOX := Lib.hid hbox; have HT := Lib.hid hT
  clear hT hbox
  go_enter Tryd.func23, Tryd.ntmps23
  go_wp2_with (fail)
  refine (refLeft_walk _ t _ p l c 400 _ (Nat.le_refl _) (HT.out.below (HBOX.out _)) (by omega) (by omega)).mono ?_
  rintro e w1 ⟨rfl, hb⟩
  have HB := Lib.hid ((HBOX.out _).trans (hb.mono (HBOX.out _).size)); clear hb
  have hg : greatB t = decide (leftT t 400 < 0) := rfl
  have HG := Lib.hid hg; clear hg
  generalize leftT t 400 = X at *
  go_wp2
  go_ret
  exact ⟨ret_bool HG.out.symm, HB.out⟩

/-! ### Has -/
set_option maxRecDepth 10000 in
set_option maxHeartbeats 3200000 in
theorem refHas_walk (kd : Int) : ∀ (m : Nat) (t : Ty) (h : Hd) (p : Option Addr) (l c : Nat) (w : World), wt t ≤ m → TyIs w h p l c t →
    Calls Tryd.prog 22 #[.agg #[.int .u8 h.k, .int .i64 h.v, .slice p l c], .int .u8 kd] w fun e w' => e = .returned (.bool (hasT kd t)) ∧ Below w.heap.size w w' := by
  intro m
  induction m with
  | zero => intro t h p l c w hm; have := wt_pos t; omega
  | succ m ih =>
    intro t h p l c w hm hT
    have hle := hasT_eq kd t
    rw [hT.head] at hle
    obtain ⟨k, v⟩ := h
    have hlc := cap63 hT
    have hbox : ∀ O : Obj, Below w.heap.size w (w.alloc O) := fun O => box_new O
    by_cases hk : k = kd
    · subst hk
      have hr : hasT k t = true := by rw [hle]; simp
      have HR := Lib.hid hr; have HBOX := Lib.hid hbox
      clear hr hle hT ih hbox
      have e1 : (k == k) = true := by simp
      go_enter Tryd.func22, Tryd.ntmps22
      go_wp2_with (fail)
      go_ret
      exact ⟨ret_bool HR.out.symm, HBOX.out _⟩
    · have hr : hasT kd t = hasK kd t.ks := by rw [hle]; simp [hk]
      have e1 : (k == kd) = false := by simpa using hk
      have HBOX := Lib.hid hbox; have IH := Lib.hid ih; have HT := Lib.hid hT; have HM := Lib.hid hm; have HLE := Lib.hid hr
      clear ih hT hm hbox hle hr hk
      go_enter Tryd.func22, Tryd.ntmps22
      go_wp2_with (fail)
      go_loopw [5, 13] (fun _ i wr => ∃ (j : Nat), j ≤ l ∧ i = .int .i64 j ∧ Hid (hasK kd t.ks = hasK kd (t.ks.drop j)) ∧
        Hid (Below (w.alloc (.cells #[.int .u8 k, .int .i64 v, .slice p l c] 25)).heap.size (w.alloc (.cells #[.int .u8 k, .int .i64 v, .slice p l c] 25)) wr)) (fun _ i _ => l - (intOf i).toNat)
      case atStart => exact ⟨0, Nat.zero_le _, rfl, Lib.hid (by rw [List.drop_zero]), Lib.hid (Below.refl _ _)⟩
      case round =>
        obtain ⟨j, hj, rfl, HLK, HW⟩ := hrel
        obtain ⟨b0, b1, b2⟩ := box3 (N := w.heap.size) rfl HW.out
        have HWW := Lib.hid ((HBOX.out _).trans (HW.out.mono (HBOX.out _).size))
        by_cases hlt : j < l
        · have hjk : j < t.ks.length := by rw [HT.out.len]; exact hlt
          have hst := HLK.out
          rw [hasK_step _ _ _ hjk] at hst
          obtain ⟨b, o, q, c', rfl, hkid, c0, c1, c2⟩ := (HT.out.kids.stay HWW.out).get j hjk
          have hwk := wts_get hjk
          have hwt := wt_ks t
          have HST := Lib.hid hst; have HK := Lib.hid hkid
          have HWK := Lib.hid hwk; have HWT := Lib.hid hwt
          clear hst hkid hwk hwt hjk
          go_wp2_with (fail)
          refine (IH.out (tget t.ks j) _ q _ c' _ (by have := HM.out; have := HWK.out; have := HWT.out; omega) HK.out).mono ?_
          rintro e w2 ⟨rfl, hb2⟩
          have HW2 := Lib.hid (HW.out.trans (hb2.mono HW.out.size))
          have HWW2 := Lib.hid (HWW.out.trans (hb2.mono HWW.out.size))
          clear hb2 b0 b1 b2 c0 c1 c2
          cases hX : hasT kd (tget t.ks j)
          · have hs := HST.out
            rw [hX, Bool.false_or] at hs
            have HS := Lib.hid hs
            clear hs hX
            go_wp2
            go_roundw
            case rel => exact ⟨j + 1, by omega, by go_num, HS, HW2⟩
            case measure => simp [intOf]; omega
          · have hs := HST.out
            rw [hX, Bool.true_or] at hs
            have HS := Lib.hid hs
            clear hs hX
            go_wp2
            go_ret
            exact ⟨ret_bool (by rw [HLE.out, HS.out]), HWW2.out⟩
        · obtain rfl : j = l := by omega
          have hr := HLK.out
          rw [List.drop_eq_nil_of_le (by rw [HT.out.len]; exact Nat.le_refl _), hasK_nil] at hr
          have HR := Lib.hid hr; clear hr
          go_wp2_with (fail)
          go_ret
          exact ⟨ret_bool (by rw [HLE.out, HR.out]), HWW.out⟩

/-! ### Size -/
theorem wts_take_step (ts : List Ty) (j : Nat) (hj : j < ts.length) : wts (ts.take (j + 1)) = wts (ts.take j) + wt (tget ts j) := by
  rw [take_tget ts j hj, wts_append, wts_cons, wts_nil]; omega
set_option maxRecDepth 10000 in
set_option maxHeartbeats 3200000 in
theorem refSize_walk : ∀ (m : Nat) (t : Ty) (h : Hd) (p : Option Addr) (l c : Nat) (w : World), wt t ≤ m → m ≤ 1000000 → TyIs w h p l c t →
    Calls Tryd.prog 24 #[.agg #[.int .u8 h.k, .int .i64 h.v, .slice p l c]] w fun e w' => e = .returned (.int .i64 (wt t : Nat)) ∧ Below w.heap.size w w' := by
  intro m
  induction m with
  | zero => intro t h p l c w hm; have := wt_pos t; omega
  | succ m ih =>
    intro t h p l c w hm hmm hT
    obtain ⟨k, v⟩ := h
    have hlc := cap63 hT
    have hbox : ∀ O : Obj, Below w.heap.size w (w.alloc O) := fun O => box_new O
    have hwt := wt_ks t
    have HBOX := Lib.hid hbox; have IH := Lib.hid ih; have HT := Lib.hid hT; have HM := Lib.hid (And.intro hm hmm); have HWT := Lib.hid hwt
    clear ih hT hm hbox hwt hmm
    go_enter Tryd.func24, Tryd.ntmps24
    go_wp2_with (fail)
    go_loopw [3, 4, 8] (fun N _ i wr => ∃ (j M : Nat), j ≤ l ∧ i = .int .i64 j ∧ N = .int .i64 M ∧ M ≤ 1000000 ∧ Hid (M = wts (t.ks.take j) + 1) ∧
      Hid (Below (w.alloc (.cells #[.int .u8 k, .int .i64 v, .slice p l c] 25)).heap.size (w.alloc (.cells #[.int .u8 k, .int .i64 v, .slice p l c] 25)) wr)) (fun _ _ i _ => l - (intOf i).toNat)
    case atStart => exact ⟨0, 1, Nat.zero_le _, rfl, rfl, by omega, Lib.hid (by rw [List.take_zero, wts_nil]), Lib.hid (Below.refl _ _)⟩
    case round =>
      obtain ⟨j, M, hj, rfl, rfl, hM1, HLK, HW⟩ := hrel
      obtain ⟨b0, b1, b2⟩ := box3 (N := w.heap.size) rfl HW.out
      have HWW := Lib.hid ((HBOX.out _).trans (HW.out.mono (HBOX.out _).size))
      by_cases hlt : j < l
      · have hjk : j < t.ks.length := by rw [HT.out.len]; exact hlt
        have hst := wts_take_step t.ks j hjk
        obtain ⟨b, o, q, c', rfl, hkid, c0, c1, c2⟩ := (HT.out.kids.stay HWW.out).get j hjk
        have hwk := wts_get hjk
        have htl := wts_take_le t.ks (j + 1)
        have HST := Lib.hid hst; have HK := Lib.hid hkid
        have HWK := Lib.hid hwk; have HTL := Lib.hid htl
        clear hst hkid hwk hjk htl
        go_wp2_with (fail)
        refine (IH.out (tget t.ks j) _ q _ c' _ (by have := HM.out; have := HWK.out; have := HWT.out; omega) (by have := HM.out; omega) HK.out).mono ?_
        rintro e w2 ⟨rfl, hb2⟩
        have HW2 := Lib.hid (HW.out.trans (hb2.mono HW.out.size))
        clear hb2 b0 b1 b2 c0 c1 c2
        have hx0 : M + wt (tget t.ks j) = wts (t.ks.take (j + 1)) + 1 := by rw [HST.out, HLK.out]; omega
        have hx1 : M + wt (tget t.ks j) ≤ 1000000 := by have := HTL.out; have := HM.out; have := HWT.out; omega
        have HX0 := Lib.hid hx0
        clear hx0
        generalize wt (tget t.ks j) = X at *
        go_wp2
        go_roundw
        case rel => exact ⟨j + 1, M + X, by omega, by go_num, by go_num, hx1, HX0, HW2⟩
        case measure => simp [intOf]; omega
      · obtain rfl : j = l := by omega
        have hr := HLK.out
        rw [List.take_of_length_le (by rw [HT.out.len]; exact Nat.le_refl _), ← HWT.out] at hr
        have HR := Lib.hid hr; clear hr
        go_wp2_with (fail)
        go_ret
        exact ⟨by rw [← HR.out]; rfl, HWW.out⟩
end Types
end Go.Proofs.YtjchplgapaeagaaDoor
