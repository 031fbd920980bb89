/-The program's writer: a term of kind 14. (Written by wip/tools/shownodes.py.) The program's writer: a term of kind 11. (Written by wip/tools/shownodes.py.) The program's writer: a term of kind 12. (Written by wip/tools/shownodes.py.) The program's writer: a term of kind 13. (Written by wip/tools/shownodes.py.) The program's writer: a term of kind 16. (Written by wip/tools/shownodes.py.) The program's writer: a term of kind 4. (Written by wip/tools/shownodes.py.) The program's writer: a term of kind 5. (Written by wip/tools/shownodes.py.) The program's writer: a term of kind 6. (Written by wip/tools/shownodes.py.) The program's writer: a term of kind 7. (Written by wip/tools/shownodes.py.) The program's writer: a term of kind 15. (Written by wip/tools/shownodes.py.) The program's writer: a term of kind 10. (Written by wip/tools/shownodes.py.) -/
import Derived.Test.YtkcadkjpneoobaaGreatDoorGShowA
import Derived.OrdersHeld
import Derived.LoopTactic
import Derived.StillTailTactics
namespace Go.Proofs.YtkcadkjpneoobaaGreatDoor
open Go.RowKit
set_option linter.unusedVariables false
set_option linter.unusedSimpArgs false
namespace Show
open Parse (wLet wLetrec wIn wFn wIf wThen wElse wRaise wTry wWith wRef wFst wSnd wExn wIs wArrow wPut wLess wAdd wSub wMul wGet wOpen wShut wComma wSemi)
open Term (Tm Hd TmIs Kids tget wt wts okT okK)
open Words (StrsAt sel)
set_option maxRecDepth 10000 in
set_option maxHeartbeats 6400000 in
theorem expr_if (w0 : World) (N m : Nat) (hN : w0.heap.size ≤ N) (hT : TermOf w0 N m) (t : Tm) (op pl nn : Int) (nm ar ex : ByteArray) (p : Option Addr) (l c : Nat) (ss : List ByteArray) (w : World)
    (hm : wt t ≤ m + 1) (hok : okT t = true) (hI : TmIs w0 ⟨14, op, pl, nn, nm, ar, ex⟩ p l c t) (hb : Below w0.heap.size w0 w) (hW : WAt N ss w) (hz : ss.length + (wordsT t).length ≤ 1000000) :
    Calls Tryz.prog 70 #[.pointer (some ⟨N, 0, none⟩), .agg #[.int .u8 14, .int .u8 op, .int .i64 pl, .int .i64 nn, .string nm, .string ar, .string ex, .slice p l c]] w (WEnd N (ss ++ wordsT t) w) := by
  have hbox : ∀ O : Obj, Below w.heap.size w (w.alloc O) := fun O => (Below.refl _ _).alloc (Nat.le_refl _) O
  have hNw := hW.lt
  have hlen := hI.len
  have hkk := (ok_kids hok).1
  rw [hI.head] at hkk
  obtain rfl : l = 3 := by have e : Term.kidsN 14 = 3 := by decide
                           have hkk' : Term.kidsN 14 = (t.ks.length : Int) := hkk
                           omega
  obtain ⟨b, o, rfl, hk⟩ := kids_at hI (by omega)
  obtain ⟨q0, d0, hI0, hc0⟩ := hk 0 (by omega)
  rw [show o + 0 * 8 = o from by omega] at hc0
  obtain ⟨q1, d1, hI1, hc1⟩ := hk 1 (by omega)
  rw [show o + 1 * 8 = o + 8 from by omega] at hc1
  obtain ⟨q2, d2, hI2, hc2⟩ := hk 2 (by omega)
  rw [show o + 2 * 8 = o + 16 from by omega] at hc2
  have hcap := hI.cap
  have ew : wordsT t = [wIf] ++ asW 0 (kdT (tget t.ks 0)) ++ [wThen] ++ asW 0 (kdT (tget t.ks 1)) ++ [wElse] ++ asW 0 (kdT (tget t.ks 2)) := by
    rw [wordsT_eq, hI.head]
    unfold comb
    have z0 : ∀ u : Tm, asW 0 (kdT u) = (kdT u).2 := fun u => asW_zero u
    simp [z0, kd_get (show 0 < t.ks.length by omega), kd_get (show 1 < t.ks.length by omega), kd_get (show 2 < t.ks.length by omega)]
  rw [ew] at hz ⊢
  simp only [List.length_append, List.length_cons, List.length_nil] at hz
  have hbelow : ∀ W, Wrote N w W → Below w0.heap.size w0 W := fun W hw => ⟨hw.os.trans hb.os, hw.tape.trans hb.tape, hw.output.trans hb.output, Nat.le_trans hb.size hw.size, fun k hk => (hw.low k (Nat.lt_of_lt_of_le hk hb.size) (by omega)).trans (hb.block k hk)⟩
  have hw1 : ∀ O : Obj, Wrote N w (w.alloc O) := fun O => Wrote.of_below (hbox O)
  have hk0 := fun W M (hM : M = W.heap.size) (hb : Below w0.heap.size w0 W) (hW : WAt N (ss) W) => kid_walk w0 N m hN hT (tget t.ks 0) _ q0 _ d0 0 [wIf] (some ⟨M, 0, none⟩) 1 1 (ss) (W.alloc (.cells #[.string ⟨#[105, 102]⟩] 9)) (kid_wt (by omega) hm) (kid_ok (by omega) hok) hI0 (hb.alloc hb.size _) (hW.alloc _) (hM ▸ Src.new W [wIf] _ _) (by simp only [List.length_append, List.length_cons, List.length_nil]; omega)
  have hk1 := fun W M (hM : M = W.heap.size) (hb : Below w0.heap.size w0 W) (hW : WAt N (ss ++ ([wIf] ++ asW 0 (kdT (tget t.ks 0)))) W) => kid_walk w0 N m hN hT (tget t.ks 1) _ q1 _ d1 0 [wThen] (some ⟨M, 0, none⟩) 1 1 (ss ++ ([wIf] ++ asW 0 (kdT (tget t.ks 0)))) (W.alloc (.cells #[.string ⟨#[116, 104, 101, 110]⟩] 9)) (kid_wt (by omega) hm) (kid_ok (by omega) hok) hI1 (hb.alloc hb.size _) (hW.alloc _) (hM ▸ Src.new W [wThen] _ _) (by simp only [List.length_append, List.length_cons, List.length_nil]; omega)
  have hk2 := fun W M (hM : M = W.heap.size) (hb : Below w0.heap.size w0 W) (hW : WAt N (ss ++ ([wIf] ++ asW 0 (kdT (tget t.ks 0))) ++ ([wThen] ++ asW 0 (kdT (tget t.ks 1)))) W) => kid_walk w0 N m hN hT (tget t.ks 2) _ q2 _ d2 0 [wElse] (some ⟨M, 0, none⟩) 1 1 (ss ++ ([wIf] ++ asW 0 (kdT (tget t.ks 0))) ++ ([wThen] ++ asW 0 (kdT (tget t.ks 1)))) (W.alloc (.cells #[.string ⟨#[101, 108, 115, 101]⟩] 9)) (kid_wt (by omega) hm) (kid_ok (by omega) hok) hI2 (hb.alloc hb.size _) (hW.alloc _) (hM ▸ Src.new W [wElse] _ _) (by simp only [List.length_append, List.length_cons, List.length_nil]; omega)
  have hcl : c ≤ 9223372036854775807 := by have := hcap.2; unfold maxLen at this; exact this
  have hcq := hcap.1
  have hX : (w.alloc (.cells #[.int .u8 14, .int .u8 op, .int .i64 pl, .int .i64 nn, .string nm, .string ar, .string ex, .slice (some ⟨b, o, none⟩) 3 c] 29)).heap[w.heap.size]? = some (.cells #[.int .u8 14, .int .u8 op, .int .i64 pl, .int .i64 nn, .string nm, .string ar, .string ex, .slice (some ⟨b, o, none⟩) 3 c] 29 (0, 0)) := heap_alloc_new w _
  have hA : WAt N ss (w.alloc (.cells #[.int .u8 14, .int .u8 op, .int .i64 pl, .int .i64 nn, .string nm, .string ar, .string ex, .slice (some ⟨b, o, none⟩) 3 c] 29)) := hW.alloc _
  have hwr := hw1 (.cells #[.int .u8 14, .int .u8 op, .int .i64 pl, .int .i64 nn, .string nm, .string ar, .string ex, .slice (some ⟨b, o, none⟩) 3 c] 29)
  have HK0 := Lib.hid hk0; have HK1 := Lib.hid hk1; have HK2 := Lib.hid hk2; have HB := Lib.hid hbelow; have HC0 := Lib.hid hc0; have HC1 := Lib.hid hc1; have HC2 := Lib.hid hc2; have HNW := Lib.hid hNw; have HZ := Lib.hid hz; have HX := Lib.hid hX; have HA := Lib.hid hA; have HW := Lib.hid hwr
  clear hk0 hk1 hk2 hbelow hc0 hc1 hc2 hNw hbox hw1 hk hI hI0 hI1 hI2 hb hW hok hm hN hT hz hlen hcap hkk ew hX hA hwr
  go_enter Tryz.func70, Tryz.ntmps70
  obtain ⟨a0, a1, a2, a3, a4, a5, a6, a7, al⟩ := HC0.out _ (HB.out _ HW.out)
  go_wp2_with (fail)
  refine (HK0.out (w.alloc (.cells #[.int .u8 14, .int .u8 op, .int .i64 pl, .int .i64 nn, .string nm, .string ar, .string ex, .slice (some ⟨b, o, none⟩) 3 c] 29)) _ (by simp) (HB.out _ HW.out) HA.out).mono ?_
  rintro e v0 h0
  have hR0 := h0.after ((Wrote.refl N (w.alloc (.cells #[.int .u8 14, .int .u8 op, .int .i64 pl, .int .i64 nn, .string nm, .string ar, .string ex, .slice (some ⟨b, o, none⟩) 3 c] 29))).alloc (.cells #[.string ⟨#[105, 102]⟩] 9))
  obtain rfl := h0.1
  have hX0 := box_kept HX.out HNW.out hR0.2.2
  have hW0 := HW.out.trans hR0.2.2
  have HR0 := Lib.hid hR0; have HX0 := Lib.hid hX0; have HW0 := Lib.hid hW0; have HA0 := Lib.hid hR0.2.1
  clear h0 hR0 hX0 hW0 a0 a1 a2 a3 a4 a5 a6 a7 al
  clear HX HW HA
  have HX := HX0; have HW := HW0; have HA := HA0
  clear HX0 HW0 HA0
  obtain ⟨⟨b0, b1, b2, b3, b4, b5, b6, b7⟩, f0, f1, f2, f3, f4, f5, f6, f7⟩ := Parse.cells8' HX.out
  have bl := lt_of_block HX.out
  obtain ⟨a0, a1, a2, a3, a4, a5, a6, a7, al⟩ := HC1.out _ (HB.out _ HW.out)
  go_wp2_with (fail)
  refine (HK1.out v0 _ (by simp) (HB.out _ HW.out) HA.out).mono ?_
  rintro e v1 h1
  have hR1 := h1.after ((Wrote.refl N v0).alloc (.cells #[.string ⟨#[116, 104, 101, 110]⟩] 9))
  obtain rfl := h1.1
  have hX1 := box_kept HX.out HNW.out hR1.2.2
  have hW1 := HW.out.trans hR1.2.2
  have HR1 := Lib.hid hR1; have HX1 := Lib.hid hX1; have HW1 := Lib.hid hW1; have HA1 := Lib.hid hR1.2.1
  clear h1 hR1 hX1 hW1 b0 b1 b2 b3 b4 b5 b6 b7 f0 f1 f2 f3 f4 f5 f6 f7 bl a0 a1 a2 a3 a4 a5 a6 a7 al
  clear HX HW HA
  have HX := HX1; have HW := HW1; have HA := HA1
  clear HX1 HW1 HA1
  obtain ⟨⟨b0, b1, b2, b3, b4, b5, b6, b7⟩, f0, f1, f2, f3, f4, f5, f6, f7⟩ := Parse.cells8' HX.out
  have bl := lt_of_block HX.out
  obtain ⟨a0, a1, a2, a3, a4, a5, a6, a7, al⟩ := HC2.out _ (HB.out _ HW.out)
  go_wp2_with (fail)
  refine (HK2.out v1 _ (by simp) (HB.out _ HW.out) HA.out).mono ?_
  rintro e v2 h2
  have hR2 := h2.after ((Wrote.refl N v1).alloc (.cells #[.string ⟨#[101, 108, 115, 101]⟩] 9))
  obtain rfl := h2.1
  have hX2 := box_kept HX.out HNW.out hR2.2.2
  have hW2 := HW.out.trans hR2.2.2
  have HR2 := Lib.hid hR2; have HX2 := Lib.hid hX2; have HW2 := Lib.hid hW2; have HA2 := Lib.hid hR2.2.1
  clear h2 hR2 hX2 hW2 b0 b1 b2 b3 b4 b5 b6 b7 f0 f1 f2 f3 f4 f5 f6 f7 bl a0 a1 a2 a3 a4 a5 a6 a7 al
  clear HX HW HA
  have HX := HX2; have HW := HW2; have HA := HA2
  clear HX2 HW2 HA2
  go_wp2_with (fail)
  go_end0
  exact ⟨rfl, (by have h := HA.out; simp only [List.append_assoc, List.cons_append, List.nil_append] at h ⊢; exact h), HW.out⟩
end Show
end Go.Proofs.YtkcadkjpneoobaaGreatDoor
namespace Go.Proofs.YtkcadkjpneoobaaGreatDoor
open Go.RowKit
set_option linter.unusedVariables false
set_option linter.unusedSimpArgs false
namespace Show
open Parse (wLet wLetrec wIn wFn wIf wThen wElse wRaise wTry wWith wRef wFst wSnd wExn wIs wArrow wPut wLess wAdd wSub wMul wGet wOpen wShut wComma wSemi)
open Term (Tm Hd TmIs Kids tget wt wts okT okK)
open Words (StrsAt sel)
set_option maxRecDepth 10000 in
set_option maxHeartbeats 6400000 in
theorem expr_fn (w0 : World) (N m : Nat) (hN : w0.heap.size ≤ N) (hT : TermOf w0 N m) (t : Tm) (op pl nn : Int) (nm ar ex : ByteArray) (p : Option Addr) (l c : Nat) (ss : List ByteArray) (w : World)
    (hm : wt t ≤ m + 1) (hok : okT t = true) (hI : TmIs w0 ⟨11, op, pl, nn, nm, ar, ex⟩ p l c t) (hb : Below w0.heap.size w0 w) (hW : WAt N ss w) (hz : ss.length + (wordsT t).length ≤ 1000000) :
    Calls Tryz.prog 70 #[.pointer (some ⟨N, 0, none⟩), .agg #[.int .u8 11, .int .u8 op, .int .i64 pl, .int .i64 nn, .string nm, .string ar, .string ex, .slice p l c]] w (WEnd N (ss ++ wordsT t) w) := by
  have hbox : ∀ O : Obj, Below w.heap.size w (w.alloc O) := fun O => (Below.refl _ _).alloc (Nat.le_refl _) O
  have hNw := hW.lt
  have hlen := hI.len
  have hkk := (ok_kids hok).1
  rw [hI.head] at hkk
  obtain rfl : l = 1 := by have e : Term.kidsN 11 = 1 := by decide
                           have hkk' : Term.kidsN 11 = (t.ks.length : Int) := hkk
                           omega
  obtain ⟨b, o, rfl, hk⟩ := kids_at hI (by omega)
  obtain ⟨q0, d0, hI0, hc0⟩ := hk 0 (by omega)
  rw [show o + 0 * 8 = o from by omega] at hc0
  have hcap := hI.cap
  have ew : wordsT t = [wFn, ar, wArrow] ++ asW 0 (kdT (tget t.ks 0)) := by
    rw [wordsT_eq, hI.head]
    unfold comb
    have z0 : ∀ u : Tm, asW 0 (kdT u) = (kdT u).2 := fun u => asW_zero u
    simp [z0, kd_get (show 0 < t.ks.length by omega)]
  rw [ew] at hz ⊢
  simp only [List.length_append, List.length_cons, List.length_nil] at hz
  have hbelow : ∀ W, Wrote N w W → Below w0.heap.size w0 W := fun W hw => ⟨hw.os.trans hb.os, hw.tape.trans hb.tape, hw.output.trans hb.output, Nat.le_trans hb.size hw.size, fun k hk => (hw.low k (Nat.lt_of_lt_of_le hk hb.size) (by omega)).trans (hb.block k hk)⟩
  have hw1 : ∀ O : Obj, Wrote N w (w.alloc O) := fun O => Wrote.of_below (hbox O)
  have hk0 := fun W M (hM : M = W.heap.size) (hb : Below w0.heap.size w0 W) (hW : WAt N (ss) W) => kid_walk w0 N m hN hT (tget t.ks 0) _ q0 _ d0 0 [wFn, ar, wArrow] (some ⟨M, 0, none⟩) 3 3 (ss) (W.alloc (.cells #[.string ⟨#[102, 110]⟩, .string ar, .string ⟨#[61, 62]⟩] 9)) (kid_wt (by omega) hm) (kid_ok (by omega) hok) hI0 (hb.alloc hb.size _) (hW.alloc _) (hM ▸ Src.new W [wFn, ar, wArrow] _ _) (by simp only [List.length_append, List.length_cons, List.length_nil]; omega)
  have hcl : c ≤ 9223372036854775807 := by have := hcap.2; unfold maxLen at this; exact this
  have hcq := hcap.1
  have hX : (w.alloc (.cells #[.int .u8 11, .int .u8 op, .int .i64 pl, .int .i64 nn, .string nm, .string ar, .string ex, .slice (some ⟨b, o, none⟩) 1 c] 29)).heap[w.heap.size]? = some (.cells #[.int .u8 11, .int .u8 op, .int .i64 pl, .int .i64 nn, .string nm, .string ar, .string ex, .slice (some ⟨b, o, none⟩) 1 c] 29 (0, 0)) := heap_alloc_new w _
  have hA : WAt N ss (w.alloc (.cells #[.int .u8 11, .int .u8 op, .int .i64 pl, .int .i64 nn, .string nm, .string ar, .string ex, .slice (some ⟨b, o, none⟩) 1 c] 29)) := hW.alloc _
  have hwr := hw1 (.cells #[.int .u8 11, .int .u8 op, .int .i64 pl, .int .i64 nn, .string nm, .string ar, .string ex, .slice (some ⟨b, o, none⟩) 1 c] 29)
  have HK0 := Lib.hid hk0; have HB := Lib.hid hbelow; have HC0 := Lib.hid hc0; have HNW := Lib.hid hNw; have HZ := Lib.hid hz; have HX := Lib.hid hX; have HA := Lib.hid hA; have HW := Lib.hid hwr
  clear hk0 hbelow hc0 hNw hbox hw1 hk hI hI0 hb hW hok hm hN hT hz hlen hcap hkk ew hX hA hwr
  go_enter Tryz.func70, Tryz.ntmps70
  obtain ⟨a0, a1, a2, a3, a4, a5, a6, a7, al⟩ := HC0.out _ (HB.out _ HW.out)
  go_wp2_with (fail)
  clear a0 a1 a2 a3 a4 a5 a6 a7 al
  refine wp_region_held_drew (S := fun V => V.heap[w.heap.size]? = some (.cells #[.int .u8 11, .int .u8 op, .int .i64 pl, .int .i64 nn, .string nm, .string ar, .string ex, .slice (some ⟨b, o, none⟩) 1 c] 29 (0, 0)) ∧ Below w0.heap.size w0 V) (by kernel_rfl) ⟨HX.out, HB.out _ HW.out.drew⟩ (fun hHeld => ?_)
  refine wpAnyH_take (i := 0) (v := .pointer (some ⟨N, 0, none⟩)) rfl (by kernel_rfl) (by kernel_rfl) (by kernel_rfl) (fun _ _ _ h => h) (Or.inl ⟨by rfl, ?_⟩) (by assumption) ?_
  · intro w' hSw
    first | go_simp | rfl
  try simp only [Act.put, List.setIfInBounds_toArray, List.set_cons_zero, List.set_cons_succ, List.getElem_toArray, List.getElem_cons_succ, List.getElem_cons_zero]
  refine wpAnyH_take (i := 1) (v := .pointer (some ⟨w.heap.size, 7, none⟩)) rfl (by kernel_rfl) (by kernel_rfl) (by kernel_rfl) (fun _ _ _ h => h) (Or.inl ⟨by rfl, ?_⟩) (by assumption) ?_
  · intro w' hSw
    first | go_simp | rfl
  try simp only [Act.put, List.setIfInBounds_toArray, List.set_cons_zero, List.set_cons_succ, List.getElem_toArray, List.getElem_cons_succ, List.getElem_cons_zero]
  refine wpAnyH_take (i := 2) (v := .slice (some ⟨b, o, none⟩) 1 c) rfl (by kernel_rfl) (by kernel_rfl) (by kernel_rfl) (fun _ _ _ h => h) (Or.inl ⟨by rfl, ?_⟩) (by assumption) ?_
  · intro w' hSw
    obtain ⟨⟨b0, b1, b2, b3, b4, b5, b6, b7⟩, f0, f1, f2, f3, f4, f5, f6, f7⟩ := Parse.cells8' hSw.1
    first | go_simp | rfl
  try simp only [Act.put, List.setIfInBounds_toArray, List.set_cons_zero, List.set_cons_succ, List.getElem_toArray, List.getElem_cons_succ, List.getElem_cons_zero]
  refine wpAnyH_take (i := 3) (v := .pointer (some ⟨b, o, none⟩)) rfl (by kernel_rfl) (by kernel_rfl) (by kernel_rfl) (fun _ _ _ h => h) (Or.inl ⟨by rfl, ?_⟩) (by assumption) ?_
  · intro w' hSw
    first | go_simp | rfl
  try simp only [Act.put, List.setIfInBounds_toArray, List.set_cons_zero, List.set_cons_succ, List.getElem_toArray, List.getElem_cons_succ, List.getElem_cons_zero]
  refine wpAnyH_take (i := 4) (v := .agg #[.int .u8 (tget t.ks 0).h.k, .int .u8 (tget t.ks 0).h.op, .int .i64 (tget t.ks 0).h.pl, .int .i64 (tget t.ks 0).h.n, .string (tget t.ks 0).h.name, .string (tget t.ks 0).h.arg, .string (tget t.ks 0).h.exn, .slice q0 (tget t.ks 0).ks.length d0]) rfl (by kernel_rfl) (by kernel_rfl) (by kernel_rfl) (fun _ _ _ h => h) (Or.inl ⟨by rfl, ?_⟩) (by assumption) ?_
  · intro w' hSw
    obtain ⟨a0, a1, a2, a3, a4, a5, a6, a7, al⟩ := HC0.out _ hSw.2
    first | go_simp | rfl
  try simp only [Act.put, List.setIfInBounds_toArray, List.set_cons_zero, List.set_cons_succ, List.getElem_toArray, List.getElem_cons_succ, List.getElem_cons_zero]
  refine wpAnyH_take (i := 5) (v := .pointer (some ⟨w.heap.size, 0, none⟩)) rfl (by kernel_rfl) (by kernel_rfl) (by kernel_rfl) (fun _ _ _ h => h) (Or.inl ⟨by rfl, ?_⟩) (by assumption) ?_
  · intro w' hSw
    first | go_simp | rfl
  try simp only [Act.put, List.setIfInBounds_toArray, List.set_cons_zero, List.set_cons_succ, List.getElem_toArray, List.getElem_cons_succ, List.getElem_cons_zero]
  refine wpAnyH_take (i := 6) (v := .pointer (some ⟨w.heap.size, 5, none⟩)) rfl (by kernel_rfl) (by kernel_rfl) (by kernel_rfl) (fun _ _ _ h => h) (Or.inl ⟨by rfl, ?_⟩) (by assumption) ?_
  · intro w' hSw
    first | go_simp | rfl
  try simp only [Act.put, List.setIfInBounds_toArray, List.set_cons_zero, List.set_cons_succ, List.getElem_toArray, List.getElem_cons_succ, List.getElem_cons_zero]
  refine wpAnyH_take (i := 7) (v := .string ar) rfl (by kernel_rfl) (by kernel_rfl) (by kernel_rfl) (fun _ _ _ h => h) (Or.inl ⟨by rfl, ?_⟩) (by assumption) ?_
  · intro w' hSw
    obtain ⟨⟨b0, b1, b2, b3, b4, b5, b6, b7⟩, f0, f1, f2, f3, f4, f5, f6, f7⟩ := Parse.cells8' hSw.1
    first | go_simp | rfl
  try simp only [Act.put, List.setIfInBounds_toArray, List.set_cons_zero, List.set_cons_succ, List.getElem_toArray, List.getElem_cons_succ, List.getElem_cons_zero]
  refine wpAnyH_ready (rs := [8]) (by kernel_rfl) (by simp) ?_
  refine AllReadyH.cons rfl (fun K hK => ?_) AllReadyH.nil
  go_simp
  have hX : ((w.alloc (.cells #[.int .u8 11, .int .u8 op, .int .i64 pl, .int .i64 nn, .string nm, .string ar, .string ex, .slice (some ⟨b, o, none⟩) 1 c] 29)).drew.alloc (.cells #[.string ⟨#[102, 110]⟩, .string ar, .string ⟨#[61, 62]⟩] 9)).heap[w.heap.size]? = some (.cells #[.int .u8 11, .int .u8 op, .int .i64 pl, .int .i64 nn, .string nm, .string ar, .string ex, .slice (some ⟨b, o, none⟩) 1 c] 29 (0, 0)) ∧ Below w0.heap.size w0 ((w.alloc (.cells #[.int .u8 11, .int .u8 op, .int .i64 pl, .int .i64 nn, .string nm, .string ar, .string ex, .slice (some ⟨b, o, none⟩) 1 c] 29)).drew.alloc (.cells #[.string ⟨#[102, 110]⟩, .string ar, .string ⟨#[61, 62]⟩] 9)) := ⟨(Below.heap_alloc _ _ _ (lt_of_block hHeld.1)).trans hHeld.1, hHeld.2.alloc hHeld.2.size _⟩
  refine hK.out _ _ hX (fun hHeld => ?_)
  try simp only [Act.put, List.setIfInBounds_toArray, List.set_cons_zero, List.set_cons_succ, List.getElem_toArray, List.getElem_cons_succ, List.getElem_cons_zero]
  clear hK hX K
  refine wpAnyH_ready (rs := [9]) (by kernel_rfl) (by simp) ?_
  refine AllReadyH.cons rfl (fun K hK => ?_) AllReadyH.nil
  go_simp
  refine (HK0.out (w.alloc (.cells #[.int .u8 11, .int .u8 op, .int .i64 pl, .int .i64 nn, .string nm, .string ar, .string ex, .slice (some ⟨b, o, none⟩) 1 c] 29)).drew _ (by first | rfl | exact (heap_alloc_size _ _).symm) (HB.out _ HW.out.drew) HA.out.drew).mono ?_
  rintro e v0 h0
  have hR0 := h0.after (((Wrote.refl N (w.alloc (.cells #[.int .u8 11, .int .u8 op, .int .i64 pl, .int .i64 nn, .string nm, .string ar, .string ex, .slice (some ⟨b, o, none⟩) 1 c] 29))).drew).alloc (.cells #[.string ⟨#[102, 110]⟩, .string ar, .string ⟨#[61, 62]⟩] 9))
  obtain rfl := h0.1
  have hX0 := box_kept HX.out HNW.out hR0.2.2
  have hW0 := HW.out.trans hR0.2.2
  have HR0 := Lib.hid hR0; have HX0 := Lib.hid hX0; have HW0 := Lib.hid hW0; have HA0 := Lib.hid hR0.2.1
  refine hK.out _ _ ⟨HX0.out, HB.out _ HW0.out⟩ (fun hHeld => ?_)
  refine wpAnyH_done (by kernel_rfl) ?_ _
  clear hK hHeld K
  clear h0 hR0 hX0 hW0
  clear HX HW HA
  have HX := HX0; have HW := HW0; have HA := HA0
  clear HX0 HW0 HA0
  go_wp2_with (fail)
  go_end0
  exact ⟨rfl, (by have h := HA.out; simp only [List.append_assoc, List.cons_append, List.nil_append] at h ⊢; exact h), HW.out⟩
end Show
end Go.Proofs.YtkcadkjpneoobaaGreatDoor
namespace Go.Proofs.YtkcadkjpneoobaaGreatDoor
open Go.RowKit
set_option linter.unusedVariables false
set_option linter.unusedSimpArgs false
namespace Show
open Parse (wLet wLetrec wIn wFn wIf wThen wElse wRaise wTry wWith wRef wFst wSnd wExn wIs wArrow wPut wLess wAdd wSub wMul wGet wOpen wShut wComma wSemi)
open Term (Tm Hd TmIs Kids tget wt wts okT okK)
open Words (StrsAt sel)
set_option maxRecDepth 10000 in
set_option maxHeartbeats 6400000 in
theorem expr_let (w0 : World) (N m : Nat) (hN : w0.heap.size ≤ N) (hT : TermOf w0 N m) (t : Tm) (op pl nn : Int) (nm ar ex : ByteArray) (p : Option Addr) (l c : Nat) (ss : List ByteArray) (w : World)
    (hm : wt t ≤ m + 1) (hok : okT t = true) (hI : TmIs w0 ⟨12, op, pl, nn, nm, ar, ex⟩ p l c t) (hb : Below w0.heap.size w0 w) (hW : WAt N ss w) (hz : ss.length + (wordsT t).length ≤ 1000000) :
    Calls Tryz.prog 70 #[.pointer (some ⟨N, 0, none⟩), .agg #[.int .u8 12, .int .u8 op, .int .i64 pl, .int .i64 nn, .string nm, .string ar, .string ex, .slice p l c]] w (WEnd N (ss ++ wordsT t) w) := by
  have hbox : ∀ O : Obj, Below w.heap.size w (w.alloc O) := fun O => (Below.refl _ _).alloc (Nat.le_refl _) O
  have hNw := hW.lt
  have hlen := hI.len
  have hkk := (ok_kids hok).1
  rw [hI.head] at hkk
  obtain rfl : l = 2 := by have e : Term.kidsN 12 = 2 := by decide
                           have hkk' : Term.kidsN 12 = (t.ks.length : Int) := hkk
                           omega
  obtain ⟨b, o, rfl, hk⟩ := kids_at hI (by omega)
  obtain ⟨q0, d0, hI0, hc0⟩ := hk 0 (by omega)
  rw [show o + 0 * 8 = o from by omega] at hc0
  obtain ⟨q1, d1, hI1, hc1⟩ := hk 1 (by omega)
  rw [show o + 1 * 8 = o + 8 from by omega] at hc1
  have hcap := hI.cap
  have ew : wordsT t = [wLet, nm, wIs] ++ asW 0 (kdT (tget t.ks 0)) ++ [wIn] ++ asW 0 (kdT (tget t.ks 1)) := by
    rw [wordsT_eq, hI.head]
    unfold comb
    have z0 : ∀ u : Tm, asW 0 (kdT u) = (kdT u).2 := fun u => asW_zero u
    simp [z0, kd_get (show 0 < t.ks.length by omega), kd_get (show 1 < t.ks.length by omega)]
  rw [ew] at hz ⊢
  simp only [List.length_append, List.length_cons, List.length_nil] at hz
  have hbelow : ∀ W, Wrote N w W → Below w0.heap.size w0 W := fun W hw => ⟨hw.os.trans hb.os, hw.tape.trans hb.tape, hw.output.trans hb.output, Nat.le_trans hb.size hw.size, fun k hk => (hw.low k (Nat.lt_of_lt_of_le hk hb.size) (by omega)).trans (hb.block k hk)⟩
  have hw1 : ∀ O : Obj, Wrote N w (w.alloc O) := fun O => Wrote.of_below (hbox O)
  have hk0 := fun W M (hM : M = W.heap.size) (hb : Below w0.heap.size w0 W) (hW : WAt N (ss) W) => kid_walk w0 N m hN hT (tget t.ks 0) _ q0 _ d0 0 [wLet, nm, wIs] (some ⟨M, 0, none⟩) 3 3 (ss) (W.alloc (.cells #[.string ⟨#[108, 101, 116]⟩, .string nm, .string ⟨#[61]⟩] 9)) (kid_wt (by omega) hm) (kid_ok (by omega) hok) hI0 (hb.alloc hb.size _) (hW.alloc _) (hM ▸ Src.new W [wLet, nm, wIs] _ _) (by simp only [List.length_append, List.length_cons, List.length_nil]; omega)
  have hk1 := fun W M (hM : M = W.heap.size) (hb : Below w0.heap.size w0 W) (hW : WAt N (ss ++ ([wLet, nm, wIs] ++ asW 0 (kdT (tget t.ks 0)))) W) => kid_walk w0 N m hN hT (tget t.ks 1) _ q1 _ d1 0 [wIn] (some ⟨M, 0, none⟩) 1 1 (ss ++ ([wLet, nm, wIs] ++ asW 0 (kdT (tget t.ks 0)))) (W.alloc (.cells #[.string ⟨#[105, 110]⟩] 9)) (kid_wt (by omega) hm) (kid_ok (by omega) hok) hI1 (hb.alloc hb.size _) (hW.alloc _) (hM ▸ Src.new W [wIn] _ _) (by simp only [List.length_append, List.length_cons, List.length_nil]; omega)
  have hcl : c ≤ 9223372036854775807 := by have := hcap.2; unfold maxLen at this; exact this
  have hcq := hcap.1
  have hX : (w.alloc (.cells #[.int .u8 12, .int .u8 op, .int .i64 pl, .int .i64 nn, .string nm, .string ar, .string ex, .slice (some ⟨b, o, none⟩) 2 c] 29)).heap[w.heap.size]? = some (.cells #[.int .u8 12, .int .u8 op, .int .i64 pl, .int .i64 nn, .string nm, .string ar, .string ex, .slice (some ⟨b, o, none⟩) 2 c] 29 (0, 0)) := heap_alloc_new w _
  have hA : WAt N ss (w.alloc (.cells #[.int .u8 12, .int .u8 op, .int .i64 pl, .int .i64 nn, .string nm, .string ar, .string ex, .slice (some ⟨b, o, none⟩) 2 c] 29)) := hW.alloc _
  have hwr := hw1 (.cells #[.int .u8 12, .int .u8 op, .int .i64 pl, .int .i64 nn, .string nm, .string ar, .string ex, .slice (some ⟨b, o, none⟩) 2 c] 29)
  have HK0 := Lib.hid hk0; have HK1 := Lib.hid hk1; have HB := Lib.hid hbelow; have HC0 := Lib.hid hc0; have HC1 := Lib.hid hc1; have HNW := Lib.hid hNw; have HZ := Lib.hid hz; have HX := Lib.hid hX; have HA := Lib.hid hA; have HW := Lib.hid hwr
  clear hk0 hk1 hbelow hc0 hc1 hNw hbox hw1 hk hI hI0 hI1 hb hW hok hm hN hT hz hlen hcap hkk ew hX hA hwr
  go_enter Tryz.func70, Tryz.ntmps70
  obtain ⟨a0, a1, a2, a3, a4, a5, a6, a7, al⟩ := HC0.out _ (HB.out _ HW.out)
  go_wp2_with (fail)
  clear a0 a1 a2 a3 a4 a5 a6 a7 al
  refine wp_region_held_drew (S := fun V => V.heap[w.heap.size]? = some (.cells #[.int .u8 12, .int .u8 op, .int .i64 pl, .int .i64 nn, .string nm, .string ar, .string ex, .slice (some ⟨b, o, none⟩) 2 c] 29 (0, 0)) ∧ Below w0.heap.size w0 V) (by kernel_rfl) ⟨HX.out, HB.out _ HW.out.drew⟩ (fun hHeld => ?_)
  refine wpAnyH_take (i := 0) (v := .pointer (some ⟨N, 0, none⟩)) rfl (by kernel_rfl) (by kernel_rfl) (by kernel_rfl) (fun _ _ _ h => h) (Or.inl ⟨by rfl, ?_⟩) (by assumption) ?_
  · intro w' hSw
    first | go_simp | rfl
  try simp only [Act.put, List.setIfInBounds_toArray, List.set_cons_zero, List.set_cons_succ, List.getElem_toArray, List.getElem_cons_succ, List.getElem_cons_zero]
  refine wpAnyH_take (i := 1) (v := .pointer (some ⟨w.heap.size, 7, none⟩)) rfl (by kernel_rfl) (by kernel_rfl) (by kernel_rfl) (fun _ _ _ h => h) (Or.inl ⟨by rfl, ?_⟩) (by assumption) ?_
  · intro w' hSw
    first | go_simp | rfl
  try simp only [Act.put, List.setIfInBounds_toArray, List.set_cons_zero, List.set_cons_succ, List.getElem_toArray, List.getElem_cons_succ, List.getElem_cons_zero]
  refine wpAnyH_take (i := 2) (v := .slice (some ⟨b, o, none⟩) 2 c) rfl (by kernel_rfl) (by kernel_rfl) (by kernel_rfl) (fun _ _ _ h => h) (Or.inl ⟨by rfl, ?_⟩) (by assumption) ?_
  · intro w' hSw
    obtain ⟨⟨b0, b1, b2, b3, b4, b5, b6, b7⟩, f0, f1, f2, f3, f4, f5, f6, f7⟩ := Parse.cells8' hSw.1
    first | go_simp | rfl
  try simp only [Act.put, List.setIfInBounds_toArray, List.set_cons_zero, List.set_cons_succ, List.getElem_toArray, List.getElem_cons_succ, List.getElem_cons_zero]
  refine wpAnyH_take (i := 3) (v := .pointer (some ⟨b, o, none⟩)) rfl (by kernel_rfl) (by kernel_rfl) (by kernel_rfl) (fun _ _ _ h => h) (Or.inl ⟨by rfl, ?_⟩) (by assumption) ?_
  · intro w' hSw
    first | go_simp | rfl
  try simp only [Act.put, List.setIfInBounds_toArray, List.set_cons_zero, List.set_cons_succ, List.getElem_toArray, List.getElem_cons_succ, List.getElem_cons_zero]
  refine wpAnyH_take (i := 4) (v := .agg #[.int .u8 (tget t.ks 0).h.k, .int .u8 (tget t.ks 0).h.op, .int .i64 (tget t.ks 0).h.pl, .int .i64 (tget t.ks 0).h.n, .string (tget t.ks 0).h.name, .string (tget t.ks 0).h.arg, .string (tget t.ks 0).h.exn, .slice q0 (tget t.ks 0).ks.length d0]) rfl (by kernel_rfl) (by kernel_rfl) (by kernel_rfl) (fun _ _ _ h => h) (Or.inl ⟨by rfl, ?_⟩) (by assumption) ?_
  · intro w' hSw
    obtain ⟨a0, a1, a2, a3, a4, a5, a6, a7, al⟩ := HC0.out _ hSw.2
    first | go_simp | rfl
  try simp only [Act.put, List.setIfInBounds_toArray, List.set_cons_zero, List.set_cons_succ, List.getElem_toArray, List.getElem_cons_succ, List.getElem_cons_zero]
  refine wpAnyH_take (i := 5) (v := .pointer (some ⟨w.heap.size, 0, none⟩)) rfl (by kernel_rfl) (by kernel_rfl) (by kernel_rfl) (fun _ _ _ h => h) (Or.inl ⟨by rfl, ?_⟩) (by assumption) ?_
  · intro w' hSw
    first | go_simp | rfl
  try simp only [Act.put, List.setIfInBounds_toArray, List.set_cons_zero, List.set_cons_succ, List.getElem_toArray, List.getElem_cons_succ, List.getElem_cons_zero]
  refine wpAnyH_take (i := 6) (v := .pointer (some ⟨w.heap.size, 4, none⟩)) rfl (by kernel_rfl) (by kernel_rfl) (by kernel_rfl) (fun _ _ _ h => h) (Or.inl ⟨by rfl, ?_⟩) (by assumption) ?_
  · intro w' hSw
    first | go_simp | rfl
  try simp only [Act.put, List.setIfInBounds_toArray, List.set_cons_zero, List.set_cons_succ, List.getElem_toArray, List.getElem_cons_succ, List.getElem_cons_zero]
  refine wpAnyH_take (i := 7) (v := .string nm) rfl (by kernel_rfl) (by kernel_rfl) (by kernel_rfl) (fun _ _ _ h => h) (Or.inl ⟨by rfl, ?_⟩) (by assumption) ?_
  · intro w' hSw
    obtain ⟨⟨b0, b1, b2, b3, b4, b5, b6, b7⟩, f0, f1, f2, f3, f4, f5, f6, f7⟩ := Parse.cells8' hSw.1
    first | go_simp | rfl
  try simp only [Act.put, List.setIfInBounds_toArray, List.set_cons_zero, List.set_cons_succ, List.getElem_toArray, List.getElem_cons_succ, List.getElem_cons_zero]
  refine wpAnyH_ready (rs := [8]) (by kernel_rfl) (by simp) ?_
  refine AllReadyH.cons rfl (fun K hK => ?_) AllReadyH.nil
  go_simp
  have hX : ((w.alloc (.cells #[.int .u8 12, .int .u8 op, .int .i64 pl, .int .i64 nn, .string nm, .string ar, .string ex, .slice (some ⟨b, o, none⟩) 2 c] 29)).drew.alloc (.cells #[.string ⟨#[108, 101, 116]⟩, .string nm, .string ⟨#[61]⟩] 9)).heap[w.heap.size]? = some (.cells #[.int .u8 12, .int .u8 op, .int .i64 pl, .int .i64 nn, .string nm, .string ar, .string ex, .slice (some ⟨b, o, none⟩) 2 c] 29 (0, 0)) ∧ Below w0.heap.size w0 ((w.alloc (.cells #[.int .u8 12, .int .u8 op, .int .i64 pl, .int .i64 nn, .string nm, .string ar, .string ex, .slice (some ⟨b, o, none⟩) 2 c] 29)).drew.alloc (.cells #[.string ⟨#[108, 101, 116]⟩, .string nm, .string ⟨#[61]⟩] 9)) := ⟨(Below.heap_alloc _ _ _ (lt_of_block hHeld.1)).trans hHeld.1, hHeld.2.alloc hHeld.2.size _⟩
  refine hK.out _ _ hX (fun hHeld => ?_)
  try simp only [Act.put, List.setIfInBounds_toArray, List.set_cons_zero, List.set_cons_succ, List.getElem_toArray, List.getElem_cons_succ, List.getElem_cons_zero]
  clear hK hX K
  refine wpAnyH_ready (rs := [9]) (by kernel_rfl) (by simp) ?_
  refine AllReadyH.cons rfl (fun K hK => ?_) AllReadyH.nil
  go_simp
  refine (HK0.out (w.alloc (.cells #[.int .u8 12, .int .u8 op, .int .i64 pl, .int .i64 nn, .string nm, .string ar, .string ex, .slice (some ⟨b, o, none⟩) 2 c] 29)).drew _ (by first | rfl | exact (heap_alloc_size _ _).symm) (HB.out _ HW.out.drew) HA.out.drew).mono ?_
  rintro e v0 h0
  have hR0 := h0.after (((Wrote.refl N (w.alloc (.cells #[.int .u8 12, .int .u8 op, .int .i64 pl, .int .i64 nn, .string nm, .string ar, .string ex, .slice (some ⟨b, o, none⟩) 2 c] 29))).drew).alloc (.cells #[.string ⟨#[108, 101, 116]⟩, .string nm, .string ⟨#[61]⟩] 9))
  obtain rfl := h0.1
  have hX0 := box_kept HX.out HNW.out hR0.2.2
  have hW0 := HW.out.trans hR0.2.2
  have HR0 := Lib.hid hR0; have HX0 := Lib.hid hX0; have HW0 := Lib.hid hW0; have HA0 := Lib.hid hR0.2.1
  refine hK.out _ _ ⟨HX0.out, HB.out _ HW0.out⟩ (fun hHeld => ?_)
  refine wpAnyH_done (by kernel_rfl) ?_ _
  clear hK hHeld K
  clear h0 hR0 hX0 hW0
  clear HX HW HA
  have HX := HX0; have HW := HW0; have HA := HA0
  clear HX0 HW0 HA0
  obtain ⟨⟨b0, b1, b2, b3, b4, b5, b6, b7⟩, f0, f1, f2, f3, f4, f5, f6, f7⟩ := Parse.cells8' HX.out
  have bl := lt_of_block HX.out
  obtain ⟨a0, a1, a2, a3, a4, a5, a6, a7, al⟩ := HC1.out _ (HB.out _ HW.out)
  go_wp2_with (fail)
  refine (HK1.out v0 _ (by simp) (HB.out _ HW.out) HA.out).mono ?_
  rintro e v1 h1
  have hR1 := h1.after ((Wrote.refl N v0).alloc (.cells #[.string ⟨#[105, 110]⟩] 9))
  obtain rfl := h1.1
  have hX1 := box_kept HX.out HNW.out hR1.2.2
  have hW1 := HW.out.trans hR1.2.2
  have HR1 := Lib.hid hR1; have HX1 := Lib.hid hX1; have HW1 := Lib.hid hW1; have HA1 := Lib.hid hR1.2.1
  clear h1 hR1 hX1 hW1 b0 b1 b2 b3 b4 b5 b6 b7 f0 f1 f2 f3 f4 f5 f6 f7 bl a0 a1 a2 a3 a4 a5 a6 a7 al
  clear HX HW HA
  have HX := HX1; have HW := HW1; have HA := HA1
  clear HX1 HW1 HA1
  go_wp2_with (fail)
  go_end0
  exact ⟨rfl, (by have h := HA.out; simp only [List.append_assoc, List.cons_append, List.nil_append] at h ⊢; exact h), HW.out⟩
end Show
end Go.Proofs.YtkcadkjpneoobaaGreatDoor
namespace Go.Proofs.YtkcadkjpneoobaaGreatDoor
open Go.RowKit
set_option linter.unusedVariables false
set_option linter.unusedSimpArgs false
namespace Show
open Parse (wLet wLetrec wIn wFn wIf wThen wElse wRaise wTry wWith wRef wFst wSnd wExn wIs wArrow wPut wLess wAdd wSub wMul wGet wOpen wShut wComma wSemi)
open Term (Tm Hd TmIs Kids tget wt wts okT okK)
open Words (StrsAt sel)
set_option maxRecDepth 10000 in
set_option maxHeartbeats 6400000 in
theorem expr_letrec (w0 : World) (N m : Nat) (hN : w0.heap.size ≤ N) (hT : TermOf w0 N m) (t : Tm) (op pl nn : Int) (nm ar ex : ByteArray) (p : Option Addr) (l c : Nat) (ss : List ByteArray) (w : World)
    (hm : wt t ≤ m + 1) (hok : okT t = true) (hI : TmIs w0 ⟨13, op, pl, nn, nm, ar, ex⟩ p l c t) (hb : Below w0.heap.size w0 w) (hW : WAt N ss w) (hz : ss.length + (wordsT t).length ≤ 1000000) :
    Calls Tryz.prog 70 #[.pointer (some ⟨N, 0, none⟩), .agg #[.int .u8 13, .int .u8 op, .int .i64 pl, .int .i64 nn, .string nm, .string ar, .string ex, .slice p l c]] w (WEnd N (ss ++ wordsT t) w) := by
  have hbox : ∀ O : Obj, Below w.heap.size w (w.alloc O) := fun O => (Below.refl _ _).alloc (Nat.le_refl _) O
  have hNw := hW.lt
  have hlen := hI.len
  have hkk := (ok_kids hok).1
  rw [hI.head] at hkk
  obtain rfl : l = 2 := by have e : Term.kidsN 13 = 2 := by decide
                           have hkk' : Term.kidsN 13 = (t.ks.length : Int) := hkk
                           omega
  obtain ⟨b, o, rfl, hk⟩ := kids_at hI (by omega)
  obtain ⟨q0, d0, hI0, hc0⟩ := hk 0 (by omega)
  rw [show o + 0 * 8 = o from by omega] at hc0
  obtain ⟨q1, d1, hI1, hc1⟩ := hk 1 (by omega)
  rw [show o + 1 * 8 = o + 8 from by omega] at hc1
  have hcap := hI.cap
  have ew : wordsT t = [wLetrec, nm, ar, wIs] ++ asW 0 (kdT (tget t.ks 0)) ++ [wIn] ++ asW 0 (kdT (tget t.ks 1)) := by
    rw [wordsT_eq, hI.head]
    unfold comb
    have z0 : ∀ u : Tm, asW 0 (kdT u) = (kdT u).2 := fun u => asW_zero u
    simp [z0, kd_get (show 0 < t.ks.length by omega), kd_get (show 1 < t.ks.length by omega)]
  rw [ew] at hz ⊢
  simp only [List.length_append, List.length_cons, List.length_nil] at hz
  have hbelow : ∀ W, Wrote N w W → Below w0.heap.size w0 W := fun W hw => ⟨hw.os.trans hb.os, hw.tape.trans hb.tape, hw.output.trans hb.output, Nat.le_trans hb.size hw.size, fun k hk => (hw.low k (Nat.lt_of_lt_of_le hk hb.size) (by omega)).trans (hb.block k hk)⟩
  have hw1 : ∀ O : Obj, Wrote N w (w.alloc O) := fun O => Wrote.of_below (hbox O)
  have hk0 := fun W M (hM : M = W.heap.size) (hb : Below w0.heap.size w0 W) (hW : WAt N (ss) W) => kid_walk w0 N m hN hT (tget t.ks 0) _ q0 _ d0 0 [wLetrec, nm, ar, wIs] (some ⟨M, 0, none⟩) 4 4 (ss) (W.alloc (.cells #[.string ⟨#[108, 101, 116, 114, 101, 99]⟩, .string nm, .string ar, .string ⟨#[61]⟩] 9)) (kid_wt (by omega) hm) (kid_ok (by omega) hok) hI0 (hb.alloc hb.size _) (hW.alloc _) (hM ▸ Src.new W [wLetrec, nm, ar, wIs] _ _) (by simp only [List.length_append, List.length_cons, List.length_nil]; omega)
  have hk1 := fun W M (hM : M = W.heap.size) (hb : Below w0.heap.size w0 W) (hW : WAt N (ss ++ ([wLetrec, nm, ar, wIs] ++ asW 0 (kdT (tget t.ks 0)))) W) => kid_walk w0 N m hN hT (tget t.ks 1) _ q1 _ d1 0 [wIn] (some ⟨M, 0, none⟩) 1 1 (ss ++ ([wLetrec, nm, ar, wIs] ++ asW 0 (kdT (tget t.ks 0)))) (W.alloc (.cells #[.string ⟨#[105, 110]⟩] 9)) (kid_wt (by omega) hm) (kid_ok (by omega) hok) hI1 (hb.alloc hb.size _) (hW.alloc _) (hM ▸ Src.new W [wIn] _ _) (by simp only [List.length_append, List.length_cons, List.length_nil]; omega)
  have hcl : c ≤ 9223372036854775807 := by have := hcap.2; unfold maxLen at this; exact this
  have hcq := hcap.1
  have hX : (w.alloc (.cells #[.int .u8 13, .int .u8 op, .int .i64 pl, .int .i64 nn, .string nm, .string ar, .string ex, .slice (some ⟨b, o, none⟩) 2 c] 29)).heap[w.heap.size]? = some (.cells #[.int .u8 13, .int .u8 op, .int .i64 pl, .int .i64 nn, .string nm, .string ar, .string ex, .slice (some ⟨b, o, none⟩) 2 c] 29 (0, 0)) := heap_alloc_new w _
  have hA : WAt N ss (w.alloc (.cells #[.int .u8 13, .int .u8 op, .int .i64 pl, .int .i64 nn, .string nm, .string ar, .string ex, .slice (some ⟨b, o, none⟩) 2 c] 29)) := hW.alloc _
  have hwr := hw1 (.cells #[.int .u8 13, .int .u8 op, .int .i64 pl, .int .i64 nn, .string nm, .string ar, .string ex, .slice (some ⟨b, o, none⟩) 2 c] 29)
  have HK0 := Lib.hid hk0; have HK1 := Lib.hid hk1; have HB := Lib.hid hbelow; have HC0 := Lib.hid hc0; have HC1 := Lib.hid hc1; have HNW := Lib.hid hNw; have HZ := Lib.hid hz; have HX := Lib.hid hX; have HA := Lib.hid hA; have HW := Lib.hid hwr
  clear hk0 hk1 hbelow hc0 hc1 hNw hbox hw1 hk hI hI0 hI1 hb hW hok hm hN hT hz hlen hcap hkk ew hX hA hwr
  go_enter Tryz.func70, Tryz.ntmps70
  obtain ⟨a0, a1, a2, a3, a4, a5, a6, a7, al⟩ := HC0.out _ (HB.out _ HW.out)
  go_wp2_with (fail)
  clear a0 a1 a2 a3 a4 a5 a6 a7 al
  refine wp_region_held_drew (S := fun V => V.heap[w.heap.size]? = some (.cells #[.int .u8 13, .int .u8 op, .int .i64 pl, .int .i64 nn, .string nm, .string ar, .string ex, .slice (some ⟨b, o, none⟩) 2 c] 29 (0, 0)) ∧ Below w0.heap.size w0 V) (by kernel_rfl) ⟨HX.out, HB.out _ HW.out.drew⟩ (fun hHeld => ?_)
  refine wpAnyH_take (i := 0) (v := .pointer (some ⟨N, 0, none⟩)) rfl (by kernel_rfl) (by kernel_rfl) (by kernel_rfl) (fun _ _ _ h => h) (Or.inl ⟨by rfl, ?_⟩) (by assumption) ?_
  · intro w' hSw
    first | go_simp | rfl
  try simp only [Act.put, List.setIfInBounds_toArray, List.set_cons_zero, List.set_cons_succ, List.getElem_toArray, List.getElem_cons_succ, List.getElem_cons_zero]
  refine wpAnyH_take (i := 1) (v := .pointer (some ⟨w.heap.size, 7, none⟩)) rfl (by kernel_rfl) (by kernel_rfl) (by kernel_rfl) (fun _ _ _ h => h) (Or.inl ⟨by rfl, ?_⟩) (by assumption) ?_
  · intro w' hSw
    first | go_simp | rfl
  try simp only [Act.put, List.setIfInBounds_toArray, List.set_cons_zero, List.set_cons_succ, List.getElem_toArray, List.getElem_cons_succ, List.getElem_cons_zero]
  refine wpAnyH_take (i := 2) (v := .slice (some ⟨b, o, none⟩) 2 c) rfl (by kernel_rfl) (by kernel_rfl) (by kernel_rfl) (fun _ _ _ h => h) (Or.inl ⟨by rfl, ?_⟩) (by assumption) ?_
  · intro w' hSw
    obtain ⟨⟨b0, b1, b2, b3, b4, b5, b6, b7⟩, f0, f1, f2, f3, f4, f5, f6, f7⟩ := Parse.cells8' hSw.1
    first | go_simp | rfl
  try simp only [Act.put, List.setIfInBounds_toArray, List.set_cons_zero, List.set_cons_succ, List.getElem_toArray, List.getElem_cons_succ, List.getElem_cons_zero]
  refine wpAnyH_take (i := 3) (v := .pointer (some ⟨b, o, none⟩)) rfl (by kernel_rfl) (by kernel_rfl) (by kernel_rfl) (fun _ _ _ h => h) (Or.inl ⟨by rfl, ?_⟩) (by assumption) ?_
  · intro w' hSw
    first | go_simp | rfl
  try simp only [Act.put, List.setIfInBounds_toArray, List.set_cons_zero, List.set_cons_succ, List.getElem_toArray, List.getElem_cons_succ, List.getElem_cons_zero]
  refine wpAnyH_take (i := 4) (v := .agg #[.int .u8 (tget t.ks 0).h.k, .int .u8 (tget t.ks 0).h.op, .int .i64 (tget t.ks 0).h.pl, .int .i64 (tget t.ks 0).h.n, .string (tget t.ks 0).h.name, .string (tget t.ks 0).h.arg, .string (tget t.ks 0).h.exn, .slice q0 (tget t.ks 0).ks.length d0]) rfl (by kernel_rfl) (by kernel_rfl) (by kernel_rfl) (fun _ _ _ h => h) (Or.inl ⟨by rfl, ?_⟩) (by assumption) ?_
  · intro w' hSw
    obtain ⟨a0, a1, a2, a3, a4, a5, a6, a7, al⟩ := HC0.out _ hSw.2
    first | go_simp | rfl
  try simp only [Act.put, List.setIfInBounds_toArray, List.set_cons_zero, List.set_cons_succ, List.getElem_toArray, List.getElem_cons_succ, List.getElem_cons_zero]
  refine wpAnyH_take (i := 5) (v := .pointer (some ⟨w.heap.size, 0, none⟩)) rfl (by kernel_rfl) (by kernel_rfl) (by kernel_rfl) (fun _ _ _ h => h) (Or.inl ⟨by rfl, ?_⟩) (by assumption) ?_
  · intro w' hSw
    first | go_simp | rfl
  try simp only [Act.put, List.setIfInBounds_toArray, List.set_cons_zero, List.set_cons_succ, List.getElem_toArray, List.getElem_cons_succ, List.getElem_cons_zero]
  refine wpAnyH_take (i := 6) (v := .pointer (some ⟨w.heap.size, 4, none⟩)) rfl (by kernel_rfl) (by kernel_rfl) (by kernel_rfl) (fun _ _ _ h => h) (Or.inl ⟨by rfl, ?_⟩) (by assumption) ?_
  · intro w' hSw
    first | go_simp | rfl
  try simp only [Act.put, List.setIfInBounds_toArray, List.set_cons_zero, List.set_cons_succ, List.getElem_toArray, List.getElem_cons_succ, List.getElem_cons_zero]
  refine wpAnyH_take (i := 7) (v := .string nm) rfl (by kernel_rfl) (by kernel_rfl) (by kernel_rfl) (fun _ _ _ h => h) (Or.inl ⟨by rfl, ?_⟩) (by assumption) ?_
  · intro w' hSw
    obtain ⟨⟨b0, b1, b2, b3, b4, b5, b6, b7⟩, f0, f1, f2, f3, f4, f5, f6, f7⟩ := Parse.cells8' hSw.1
    first | go_simp | rfl
  try simp only [Act.put, List.setIfInBounds_toArray, List.set_cons_zero, List.set_cons_succ, List.getElem_toArray, List.getElem_cons_succ, List.getElem_cons_zero]
  refine wpAnyH_take (i := 8) (v := .pointer (some ⟨w.heap.size, 0, none⟩)) rfl (by kernel_rfl) (by kernel_rfl) (by kernel_rfl) (fun _ _ _ h => h) (Or.inl ⟨by rfl, ?_⟩) (by assumption) ?_
  · intro w' hSw
    first | go_simp | rfl
  try simp only [Act.put, List.setIfInBounds_toArray, List.set_cons_zero, List.set_cons_succ, List.getElem_toArray, List.getElem_cons_succ, List.getElem_cons_zero]
  refine wpAnyH_take (i := 9) (v := .pointer (some ⟨w.heap.size, 5, none⟩)) rfl (by kernel_rfl) (by kernel_rfl) (by kernel_rfl) (fun _ _ _ h => h) (Or.inl ⟨by rfl, ?_⟩) (by assumption) ?_
  · intro w' hSw
    first | go_simp | rfl
  try simp only [Act.put, List.setIfInBounds_toArray, List.set_cons_zero, List.set_cons_succ, List.getElem_toArray, List.getElem_cons_succ, List.getElem_cons_zero]
  refine wpAnyH_take (i := 10) (v := .string ar) rfl (by kernel_rfl) (by kernel_rfl) (by kernel_rfl) (fun _ _ _ h => h) (Or.inl ⟨by rfl, ?_⟩) (by assumption) ?_
  · intro w' hSw
    obtain ⟨⟨b0, b1, b2, b3, b4, b5, b6, b7⟩, f0, f1, f2, f3, f4, f5, f6, f7⟩ := Parse.cells8' hSw.1
    first | go_simp | rfl
  try simp only [Act.put, List.setIfInBounds_toArray, List.set_cons_zero, List.set_cons_succ, List.getElem_toArray, List.getElem_cons_succ, List.getElem_cons_zero]
  refine wpAnyH_ready (rs := [11]) (by kernel_rfl) (by simp) ?_
  refine AllReadyH.cons rfl (fun K hK => ?_) AllReadyH.nil
  go_simp
  have hX : ((w.alloc (.cells #[.int .u8 13, .int .u8 op, .int .i64 pl, .int .i64 nn, .string nm, .string ar, .string ex, .slice (some ⟨b, o, none⟩) 2 c] 29)).drew.alloc (.cells #[.string ⟨#[108, 101, 116, 114, 101, 99]⟩, .string nm, .string ar, .string ⟨#[61]⟩] 9)).heap[w.heap.size]? = some (.cells #[.int .u8 13, .int .u8 op, .int .i64 pl, .int .i64 nn, .string nm, .string ar, .string ex, .slice (some ⟨b, o, none⟩) 2 c] 29 (0, 0)) ∧ Below w0.heap.size w0 ((w.alloc (.cells #[.int .u8 13, .int .u8 op, .int .i64 pl, .int .i64 nn, .string nm, .string ar, .string ex, .slice (some ⟨b, o, none⟩) 2 c] 29)).drew.alloc (.cells #[.string ⟨#[108, 101, 116, 114, 101, 99]⟩, .string nm, .string ar, .string ⟨#[61]⟩] 9)) := ⟨(Below.heap_alloc _ _ _ (lt_of_block hHeld.1)).trans hHeld.1, hHeld.2.alloc hHeld.2.size _⟩
  refine hK.out _ _ hX (fun hHeld => ?_)
  try simp only [Act.put, List.setIfInBounds_toArray, List.set_cons_zero, List.set_cons_succ, List.getElem_toArray, List.getElem_cons_succ, List.getElem_cons_zero]
  clear hK hX K
  refine wpAnyH_ready (rs := [12]) (by kernel_rfl) (by simp) ?_
  refine AllReadyH.cons rfl (fun K hK => ?_) AllReadyH.nil
  go_simp
  refine (HK0.out (w.alloc (.cells #[.int .u8 13, .int .u8 op, .int .i64 pl, .int .i64 nn, .string nm, .string ar, .string ex, .slice (some ⟨b, o, none⟩) 2 c] 29)).drew _ (by first | rfl | exact (heap_alloc_size _ _).symm) (HB.out _ HW.out.drew) HA.out.drew).mono ?_
  rintro e v0 h0
  have hR0 := h0.after (((Wrote.refl N (w.alloc (.cells #[.int .u8 13, .int .u8 op, .int .i64 pl, .int .i64 nn, .string nm, .string ar, .string ex, .slice (some ⟨b, o, none⟩) 2 c] 29))).drew).alloc (.cells #[.string ⟨#[108, 101, 116, 114, 101, 99]⟩, .string nm, .string ar, .string ⟨#[61]⟩] 9))
  obtain rfl := h0.1
  have hX0 := box_kept HX.out HNW.out hR0.2.2
  have hW0 := HW.out.trans hR0.2.2
  have HR0 := Lib.hid hR0; have HX0 := Lib.hid hX0; have HW0 := Lib.hid hW0; have HA0 := Lib.hid hR0.2.1
  refine hK.out _ _ ⟨HX0.out, HB.out _ HW0.out⟩ (fun hHeld => ?_)
  refine wpAnyH_done (by kernel_rfl) ?_ _
  clear hK hHeld K
  clear h0 hR0 hX0 hW0
  clear HX HW HA
  have HX := HX0; have HW := HW0; have HA := HA0
  clear HX0 HW0 HA0
  obtain ⟨⟨b0, b1, b2, b3, b4, b5, b6, b7⟩, f0, f1, f2, f3, f4, f5, f6, f7⟩ := Parse.cells8' HX.out
  have bl := lt_of_block HX.out
  obtain ⟨a0, a1, a2, a3, a4, a5, a6, a7, al⟩ := HC1.out _ (HB.out _ HW.out)
  go_wp2_with (fail)
  refine (HK1.out v0 _ (by simp) (HB.out _ HW.out) HA.out).mono ?_
  rintro e v1 h1
  have hR1 := h1.after ((Wrote.refl N v0).alloc (.cells #[.string ⟨#[105, 110]⟩] 9))
  obtain rfl := h1.1
  have hX1 := box_kept HX.out HNW.out hR1.2.2
  have hW1 := HW.out.trans hR1.2.2
  have HR1 := Lib.hid hR1; have HX1 := Lib.hid hX1; have HW1 := Lib.hid hW1; have HA1 := Lib.hid hR1.2.1
  clear h1 hR1 hX1 hW1 b0 b1 b2 b3 b4 b5 b6 b7 f0 f1 f2 f3 f4 f5 f6 f7 bl a0 a1 a2 a3 a4 a5 a6 a7 al
  clear HX HW HA
  have HX := HX1; have HW := HW1; have HA := HA1
  clear HX1 HW1 HA1
  go_wp2_with (fail)
  go_end0
  exact ⟨rfl, (by have h := HA.out; simp only [List.append_assoc, List.cons_append, List.nil_append] at h ⊢; exact h), HW.out⟩
end Show
end Go.Proofs.YtkcadkjpneoobaaGreatDoor
namespace Go.Proofs.YtkcadkjpneoobaaGreatDoor
open Go.RowKit
set_option linter.unusedVariables false
set_option linter.unusedSimpArgs false
namespace Show
open Parse (wLet wLetrec wIn wFn wIf wThen wElse wRaise wTry wWith wRef wFst wSnd wExn wIs wArrow wPut wLess wAdd wSub wMul wGet wOpen wShut wComma wSemi)
open Term (Tm Hd TmIs Kids tget wt wts okT okK)
open Words (StrsAt sel)
set_option maxRecDepth 10000 in
set_option maxHeartbeats 6400000 in
theorem expr_try (w0 : World) (N m : Nat) (hN : w0.heap.size ≤ N) (hT : TermOf w0 N m) (t : Tm) (op pl nn : Int) (nm ar ex : ByteArray) (p : Option Addr) (l c : Nat) (ss : List ByteArray) (w : World)
    (hm : wt t ≤ m + 1) (hok : okT t = true) (hI : TmIs w0 ⟨16, op, pl, nn, nm, ar, ex⟩ p l c t) (hb : Below w0.heap.size w0 w) (hW : WAt N ss w) (hz : ss.length + (wordsT t).length ≤ 1000000) :
    Calls Tryz.prog 70 #[.pointer (some ⟨N, 0, none⟩), .agg #[.int .u8 16, .int .u8 op, .int .i64 pl, .int .i64 nn, .string nm, .string ar, .string ex, .slice p l c]] w (WEnd N (ss ++ wordsT t) w) := by
  have hbox : ∀ O : Obj, Below w.heap.size w (w.alloc O) := fun O => (Below.refl _ _).alloc (Nat.le_refl _) O
  have hNw := hW.lt
  have hlen := hI.len
  have hkk := (ok_kids hok).1
  rw [hI.head] at hkk
  obtain rfl : l = 2 := by have e : Term.kidsN 16 = 2 := by decide
                           have hkk' : Term.kidsN 16 = (t.ks.length : Int) := hkk
                           omega
  obtain ⟨b, o, rfl, hk⟩ := kids_at hI (by omega)
  obtain ⟨q0, d0, hI0, hc0⟩ := hk 0 (by omega)
  rw [show o + 0 * 8 = o from by omega] at hc0
  obtain ⟨q1, d1, hI1, hc1⟩ := hk 1 (by omega)
  rw [show o + 1 * 8 = o + 8 from by omega] at hc1
  have hcap := hI.cap
  have ew : wordsT t = [wTry] ++ asW 0 (kdT (tget t.ks 0)) ++ [wWith, ex, ar, wArrow] ++ asW 0 (kdT (tget t.ks 1)) := by
    rw [wordsT_eq, hI.head]
    unfold comb
    have z0 : ∀ u : Tm, asW 0 (kdT u) = (kdT u).2 := fun u => asW_zero u
    simp [z0, kd_get (show 0 < t.ks.length by omega), kd_get (show 1 < t.ks.length by omega)]
  rw [ew] at hz ⊢
  simp only [List.length_append, List.length_cons, List.length_nil] at hz
  have hbelow : ∀ W, Wrote N w W → Below w0.heap.size w0 W := fun W hw => ⟨hw.os.trans hb.os, hw.tape.trans hb.tape, hw.output.trans hb.output, Nat.le_trans hb.size hw.size, fun k hk => (hw.low k (Nat.lt_of_lt_of_le hk hb.size) (by omega)).trans (hb.block k hk)⟩
  have hw1 : ∀ O : Obj, Wrote N w (w.alloc O) := fun O => Wrote.of_below (hbox O)
  have hk0 := fun W M (hM : M = W.heap.size) (hb : Below w0.heap.size w0 W) (hW : WAt N (ss) W) => kid_walk w0 N m hN hT (tget t.ks 0) _ q0 _ d0 0 [wTry] (some ⟨M, 0, none⟩) 1 1 (ss) (W.alloc (.cells #[.string ⟨#[116, 114, 121]⟩] 9)) (kid_wt (by omega) hm) (kid_ok (by omega) hok) hI0 (hb.alloc hb.size _) (hW.alloc _) (hM ▸ Src.new W [wTry] _ _) (by simp only [List.length_append, List.length_cons, List.length_nil]; omega)
  have hk1 := fun W M (hM : M = W.heap.size) (hb : Below w0.heap.size w0 W) (hW : WAt N (ss ++ ([wTry] ++ asW 0 (kdT (tget t.ks 0)))) W) => kid_walk w0 N m hN hT (tget t.ks 1) _ q1 _ d1 0 [wWith, ex, ar, wArrow] (some ⟨M, 0, none⟩) 4 4 (ss ++ ([wTry] ++ asW 0 (kdT (tget t.ks 0)))) (W.alloc (.cells #[.string ⟨#[119, 105, 116, 104]⟩, .string ex, .string ar, .string ⟨#[61, 62]⟩] 9)) (kid_wt (by omega) hm) (kid_ok (by omega) hok) hI1 (hb.alloc hb.size _) (hW.alloc _) (hM ▸ Src.new W [wWith, ex, ar, wArrow] _ _) (by simp only [List.length_append, List.length_cons, List.length_nil]; omega)
  have hcl : c ≤ 9223372036854775807 := by have := hcap.2; unfold maxLen at this; exact this
  have hcq := hcap.1
  have hX : (w.alloc (.cells #[.int .u8 16, .int .u8 op, .int .i64 pl, .int .i64 nn, .string nm, .string ar, .string ex, .slice (some ⟨b, o, none⟩) 2 c] 29)).heap[w.heap.size]? = some (.cells #[.int .u8 16, .int .u8 op, .int .i64 pl, .int .i64 nn, .string nm, .string ar, .string ex, .slice (some ⟨b, o, none⟩) 2 c] 29 (0, 0)) := heap_alloc_new w _
  have hA : WAt N ss (w.alloc (.cells #[.int .u8 16, .int .u8 op, .int .i64 pl, .int .i64 nn, .string nm, .string ar, .string ex, .slice (some ⟨b, o, none⟩) 2 c] 29)) := hW.alloc _
  have hwr := hw1 (.cells #[.int .u8 16, .int .u8 op, .int .i64 pl, .int .i64 nn, .string nm, .string ar, .string ex, .slice (some ⟨b, o, none⟩) 2 c] 29)
  have HK0 := Lib.hid hk0; have HK1 := Lib.hid hk1; have HB := Lib.hid hbelow; have HC0 := Lib.hid hc0; have HC1 := Lib.hid hc1; have HNW := Lib.hid hNw; have HZ := Lib.hid hz; have HX := Lib.hid hX; have HA := Lib.hid hA; have HW := Lib.hid hwr
  clear hk0 hk1 hbelow hc0 hc1 hNw hbox hw1 hk hI hI0 hI1 hb hW hok hm hN hT hz hlen hcap hkk ew hX hA hwr
  go_enter Tryz.func70, Tryz.ntmps70
  obtain ⟨a0, a1, a2, a3, a4, a5, a6, a7, al⟩ := HC0.out _ (HB.out _ HW.out)
  go_wp2_with (fail)
  refine (HK0.out (w.alloc (.cells #[.int .u8 16, .int .u8 op, .int .i64 pl, .int .i64 nn, .string nm, .string ar, .string ex, .slice (some ⟨b, o, none⟩) 2 c] 29)) _ (by simp) (HB.out _ HW.out) HA.out).mono ?_
  rintro e v0 h0
  have hR0 := h0.after ((Wrote.refl N (w.alloc (.cells #[.int .u8 16, .int .u8 op, .int .i64 pl, .int .i64 nn, .string nm, .string ar, .string ex, .slice (some ⟨b, o, none⟩) 2 c] 29))).alloc (.cells #[.string ⟨#[116, 114, 121]⟩] 9))
  obtain rfl := h0.1
  have hX0 := box_kept HX.out HNW.out hR0.2.2
  have hW0 := HW.out.trans hR0.2.2
  have HR0 := Lib.hid hR0; have HX0 := Lib.hid hX0; have HW0 := Lib.hid hW0; have HA0 := Lib.hid hR0.2.1
  clear h0 hR0 hX0 hW0 a0 a1 a2 a3 a4 a5 a6 a7 al
  clear HX HW HA
  have HX := HX0; have HW := HW0; have HA := HA0
  clear HX0 HW0 HA0
  obtain ⟨⟨b0, b1, b2, b3, b4, b5, b6, b7⟩, f0, f1, f2, f3, f4, f5, f6, f7⟩ := Parse.cells8' HX.out
  have bl := lt_of_block HX.out
  obtain ⟨a0, a1, a2, a3, a4, a5, a6, a7, al⟩ := HC1.out _ (HB.out _ HW.out)
  go_wp2_with (fail)
  clear b0 b1 b2 b3 b4 b5 b6 b7 f0 f1 f2 f3 f4 f5 f6 f7 bl a0 a1 a2 a3 a4 a5 a6 a7 al
  refine wp_region_held_drew (S := fun V => V.heap[w.heap.size]? = some (.cells #[.int .u8 16, .int .u8 op, .int .i64 pl, .int .i64 nn, .string nm, .string ar, .string ex, .slice (some ⟨b, o, none⟩) 2 c] 29 (0, 0)) ∧ Below w0.heap.size w0 V) (by kernel_rfl) ⟨HX.out, HB.out _ HW.out.drew⟩ (fun hHeld => ?_)
  refine wpAnyH_take (i := 0) (v := .pointer (some ⟨N, 0, none⟩)) rfl (by kernel_rfl) (by kernel_rfl) (by kernel_rfl) (fun _ _ _ h => h) (Or.inl ⟨by rfl, ?_⟩) (by assumption) ?_
  · intro w' hSw
    first | go_simp | rfl
  try simp only [Act.put, List.setIfInBounds_toArray, List.set_cons_zero, List.set_cons_succ, List.getElem_toArray, List.getElem_cons_succ, List.getElem_cons_zero]
  refine wpAnyH_take (i := 1) (v := .pointer (some ⟨w.heap.size, 7, none⟩)) rfl (by kernel_rfl) (by kernel_rfl) (by kernel_rfl) (fun _ _ _ h => h) (Or.inl ⟨by rfl, ?_⟩) (by assumption) ?_
  · intro w' hSw
    first | go_simp | rfl
  try simp only [Act.put, List.setIfInBounds_toArray, List.set_cons_zero, List.set_cons_succ, List.getElem_toArray, List.getElem_cons_succ, List.getElem_cons_zero]
  refine wpAnyH_take (i := 2) (v := .slice (some ⟨b, o, none⟩) 2 c) rfl (by kernel_rfl) (by kernel_rfl) (by kernel_rfl) (fun _ _ _ h => h) (Or.inl ⟨by rfl, ?_⟩) (by assumption) ?_
  · intro w' hSw
    obtain ⟨⟨b0, b1, b2, b3, b4, b5, b6, b7⟩, f0, f1, f2, f3, f4, f5, f6, f7⟩ := Parse.cells8' hSw.1
    first | go_simp | rfl
  try simp only [Act.put, List.setIfInBounds_toArray, List.set_cons_zero, List.set_cons_succ, List.getElem_toArray, List.getElem_cons_succ, List.getElem_cons_zero]
  refine wpAnyH_take (i := 3) (v := .pointer (some ⟨b, o + 8, none⟩)) rfl (by kernel_rfl) (by kernel_rfl) (by kernel_rfl) (fun _ _ _ h => h) (Or.inl ⟨by rfl, ?_⟩) (by assumption) ?_
  · intro w' hSw
    first | go_simp | rfl
  try simp only [Act.put, List.setIfInBounds_toArray, List.set_cons_zero, List.set_cons_succ, List.getElem_toArray, List.getElem_cons_succ, List.getElem_cons_zero]
  refine wpAnyH_take (i := 4) (v := .agg #[.int .u8 (tget t.ks 1).h.k, .int .u8 (tget t.ks 1).h.op, .int .i64 (tget t.ks 1).h.pl, .int .i64 (tget t.ks 1).h.n, .string (tget t.ks 1).h.name, .string (tget t.ks 1).h.arg, .string (tget t.ks 1).h.exn, .slice q1 (tget t.ks 1).ks.length d1]) rfl (by kernel_rfl) (by kernel_rfl) (by kernel_rfl) (fun _ _ _ h => h) (Or.inl ⟨by rfl, ?_⟩) (by assumption) ?_
  · intro w' hSw
    obtain ⟨a0, a1, a2, a3, a4, a5, a6, a7, al⟩ := HC1.out _ hSw.2
    first | go_simp | rfl
  try simp only [Act.put, List.setIfInBounds_toArray, List.set_cons_zero, List.set_cons_succ, List.getElem_toArray, List.getElem_cons_succ, List.getElem_cons_zero]
  refine wpAnyH_take (i := 5) (v := .pointer (some ⟨w.heap.size, 0, none⟩)) rfl (by kernel_rfl) (by kernel_rfl) (by kernel_rfl) (fun _ _ _ h => h) (Or.inl ⟨by rfl, ?_⟩) (by assumption) ?_
  · intro w' hSw
    first | go_simp | rfl
  try simp only [Act.put, List.setIfInBounds_toArray, List.set_cons_zero, List.set_cons_succ, List.getElem_toArray, List.getElem_cons_succ, List.getElem_cons_zero]
  refine wpAnyH_take (i := 6) (v := .pointer (some ⟨w.heap.size, 6, none⟩)) rfl (by kernel_rfl) (by kernel_rfl) (by kernel_rfl) (fun _ _ _ h => h) (Or.inl ⟨by rfl, ?_⟩) (by assumption) ?_
  · intro w' hSw
    first | go_simp | rfl
  try simp only [Act.put, List.setIfInBounds_toArray, List.set_cons_zero, List.set_cons_succ, List.getElem_toArray, List.getElem_cons_succ, List.getElem_cons_zero]
  refine wpAnyH_take (i := 7) (v := .string ex) rfl (by kernel_rfl) (by kernel_rfl) (by kernel_rfl) (fun _ _ _ h => h) (Or.inl ⟨by rfl, ?_⟩) (by assumption) ?_
  · intro w' hSw
    obtain ⟨⟨b0, b1, b2, b3, b4, b5, b6, b7⟩, f0, f1, f2, f3, f4, f5, f6, f7⟩ := Parse.cells8' hSw.1
    first | go_simp | rfl
  try simp only [Act.put, List.setIfInBounds_toArray, List.set_cons_zero, List.set_cons_succ, List.getElem_toArray, List.getElem_cons_succ, List.getElem_cons_zero]
  refine wpAnyH_take (i := 8) (v := .pointer (some ⟨w.heap.size, 0, none⟩)) rfl (by kernel_rfl) (by kernel_rfl) (by kernel_rfl) (fun _ _ _ h => h) (Or.inl ⟨by rfl, ?_⟩) (by assumption) ?_
  · intro w' hSw
    first | go_simp | rfl
  try simp only [Act.put, List.setIfInBounds_toArray, List.set_cons_zero, List.set_cons_succ, List.getElem_toArray, List.getElem_cons_succ, List.getElem_cons_zero]
  refine wpAnyH_take (i := 9) (v := .pointer (some ⟨w.heap.size, 5, none⟩)) rfl (by kernel_rfl) (by kernel_rfl) (by kernel_rfl) (fun _ _ _ h => h) (Or.inl ⟨by rfl, ?_⟩) (by assumption) ?_
  · intro w' hSw
    first | go_simp | rfl
  try simp only [Act.put, List.setIfInBounds_toArray, List.set_cons_zero, List.set_cons_succ, List.getElem_toArray, List.getElem_cons_succ, List.getElem_cons_zero]
  refine wpAnyH_take (i := 10) (v := .string ar) rfl (by kernel_rfl) (by kernel_rfl) (by kernel_rfl) (fun _ _ _ h => h) (Or.inl ⟨by rfl, ?_⟩) (by assumption) ?_
  · intro w' hSw
    obtain ⟨⟨b0, b1, b2, b3, b4, b5, b6, b7⟩, f0, f1, f2, f3, f4, f5, f6, f7⟩ := Parse.cells8' hSw.1
    first | go_simp | rfl
  try simp only [Act.put, List.setIfInBounds_toArray, List.set_cons_zero, List.set_cons_succ, List.getElem_toArray, List.getElem_cons_succ, List.getElem_cons_zero]
  refine wpAnyH_ready (rs := [11]) (by kernel_rfl) (by simp) ?_
  refine AllReadyH.cons rfl (fun K hK => ?_) AllReadyH.nil
  go_simp
  have hX : (v0.drew.alloc (.cells #[.string ⟨#[119, 105, 116, 104]⟩, .string ex, .string ar, .string ⟨#[61, 62]⟩] 9)).heap[w.heap.size]? = some (.cells #[.int .u8 16, .int .u8 op, .int .i64 pl, .int .i64 nn, .string nm, .string ar, .string ex, .slice (some ⟨b, o, none⟩) 2 c] 29 (0, 0)) ∧ Below w0.heap.size w0 (v0.drew.alloc (.cells #[.string ⟨#[119, 105, 116, 104]⟩, .string ex, .string ar, .string ⟨#[61, 62]⟩] 9)) := ⟨(Below.heap_alloc _ _ _ (lt_of_block hHeld.1)).trans hHeld.1, hHeld.2.alloc hHeld.2.size _⟩
  refine hK.out _ _ hX (fun hHeld => ?_)
  try simp only [Act.put, List.setIfInBounds_toArray, List.set_cons_zero, List.set_cons_succ, List.getElem_toArray, List.getElem_cons_succ, List.getElem_cons_zero]
  clear hK hX K
  refine wpAnyH_ready (rs := [12]) (by kernel_rfl) (by simp) ?_
  refine AllReadyH.cons rfl (fun K hK => ?_) AllReadyH.nil
  go_simp
  refine (HK1.out v0.drew _ (by first | rfl | exact (heap_alloc_size _ _).symm) (HB.out _ HW.out.drew) HA.out.drew).mono ?_
  rintro e v1 h1
  have hR1 := h1.after (((Wrote.refl N v0).drew).alloc (.cells #[.string ⟨#[119, 105, 116, 104]⟩, .string ex, .string ar, .string ⟨#[61, 62]⟩] 9))
  obtain rfl := h1.1
  have hX1 := box_kept HX.out HNW.out hR1.2.2
  have hW1 := HW.out.trans hR1.2.2
  have HR1 := Lib.hid hR1; have HX1 := Lib.hid hX1; have HW1 := Lib.hid hW1; have HA1 := Lib.hid hR1.2.1
  refine hK.out _ _ ⟨HX1.out, HB.out _ HW1.out⟩ (fun hHeld => ?_)
  refine wpAnyH_done (by kernel_rfl) ?_ _
  clear hK hHeld K
  clear h1 hR1 hX1 hW1
  clear HX HW HA
  have HX := HX1; have HW := HW1; have HA := HA1
  clear HX1 HW1 HA1
  go_wp2_with (fail)
  go_end0
  exact ⟨rfl, (by have h := HA.out; simp only [List.append_assoc, List.cons_append, List.nil_append] at h ⊢; exact h), HW.out⟩
end Show
end Go.Proofs.YtkcadkjpneoobaaGreatDoor
namespace Go.Proofs.YtkcadkjpneoobaaGreatDoor
open Go.RowKit
set_option linter.unusedVariables false
set_option linter.unusedSimpArgs false
namespace Show
open Parse (wLet wLetrec wIn wFn wIf wThen wElse wRaise wTry wWith wRef wFst wSnd wExn wIs wArrow wPut wLess wAdd wSub wMul wGet wOpen wShut wComma wSemi)
open Term (Tm Hd TmIs Kids tget wt wts okT okK)
open Words (StrsAt sel)
set_option maxRecDepth 10000 in
set_option maxHeartbeats 6400000 in
theorem term_fst (w0 : World) (N m : Nat) (hN : w0.heap.size ≤ N) (hT : TermOf w0 N m) (t : Tm) (op pl nn : Int) (nm ar ex : ByteArray) (p : Option Addr) (l c : Nat) (ss : List ByteArray) (w : World)
    (hm : wt t ≤ m + 1) (hok : okT t = true) (hI : TmIs w0 ⟨4, op, pl, nn, nm, ar, ex⟩ p l c t) (hb : Below w0.heap.size w0 w) (hW : WAt N ss w) (hz : ss.length + (wordsT t).length ≤ 1000000) :
    Calls Tryz.prog 35 #[.pointer (some ⟨N, 0, none⟩), .agg #[.int .u8 4, .int .u8 op, .int .i64 pl, .int .i64 nn, .string nm, .string ar, .string ex, .slice p l c]] w (WEnd N (ss ++ wordsT t) w) := by
  have hbox : ∀ O : Obj, Below w.heap.size w (w.alloc O) := fun O => (Below.refl _ _).alloc (Nat.le_refl _) O
  have hNw := hW.lt
  have hlen := hI.len
  have hkk := (ok_kids hok).1
  rw [hI.head] at hkk
  obtain rfl : l = 1 := by have e : Term.kidsN 4 = 1 := by decide
                           have hkk' : Term.kidsN 4 = (t.ks.length : Int) := hkk
                           omega
  obtain ⟨b, o, rfl, hk⟩ := kids_at hI (by omega)
  obtain ⟨q0, d0, hI0, hc0⟩ := hk 0 (by omega)
  rw [show o + 0 * 8 = o from by omega] at hc0
  have hcap := hI.cap
  have ew : wordsT t = [wFst] ++ asW 6 (kdT (tget t.ks 0)) := by
    rw [wordsT_eq, hI.head]
    unfold comb
    have z0 : ∀ u : Tm, asW 0 (kdT u) = (kdT u).2 := fun u => asW_zero u
    simp [z0, kd_get (show 0 < t.ks.length by omega)]
  rw [ew] at hz ⊢
  simp only [List.length_append, List.length_cons, List.length_nil] at hz
  have hbelow : ∀ W, Wrote N w W → Below w0.heap.size w0 W := fun W hw => ⟨hw.os.trans hb.os, hw.tape.trans hb.tape, hw.output.trans hb.output, Nat.le_trans hb.size hw.size, fun k hk => (hw.low k (Nat.lt_of_lt_of_le hk hb.size) (by omega)).trans (hb.block k hk)⟩
  have hw1 : ∀ O : Obj, Wrote N w (w.alloc O) := fun O => Wrote.of_below (hbox O)
  have hk0 := fun W M (hM : M = W.heap.size) (hb : Below w0.heap.size w0 W) (hW : WAt N (ss) W) => kid_walk w0 N m hN hT (tget t.ks 0) _ q0 _ d0 6 [wFst] (some ⟨M, 0, none⟩) 1 1 (ss) (W.alloc (.cells #[.string ⟨#[102, 115, 116]⟩] 9)) (kid_wt (by omega) hm) (kid_ok (by omega) hok) hI0 (hb.alloc hb.size _) (hW.alloc _) (hM ▸ Src.new W [wFst] _ _) (by simp only [List.length_append, List.length_cons, List.length_nil]; omega)
  have hcl : c ≤ 9223372036854775807 := by have := hcap.2; unfold maxLen at this; exact this
  have hcq := hcap.1
  have hX : (w.alloc (.cells #[.int .u8 4, .int .u8 op, .int .i64 pl, .int .i64 nn, .string nm, .string ar, .string ex, .slice (some ⟨b, o, none⟩) 1 c] 29)).heap[w.heap.size]? = some (.cells #[.int .u8 4, .int .u8 op, .int .i64 pl, .int .i64 nn, .string nm, .string ar, .string ex, .slice (some ⟨b, o, none⟩) 1 c] 29 (0, 0)) := heap_alloc_new w _
  have hA : WAt N ss (w.alloc (.cells #[.int .u8 4, .int .u8 op, .int .i64 pl, .int .i64 nn, .string nm, .string ar, .string ex, .slice (some ⟨b, o, none⟩) 1 c] 29)) := hW.alloc _
  have hwr := hw1 (.cells #[.int .u8 4, .int .u8 op, .int .i64 pl, .int .i64 nn, .string nm, .string ar, .string ex, .slice (some ⟨b, o, none⟩) 1 c] 29)
  have HK0 := Lib.hid hk0; have HB := Lib.hid hbelow; have HC0 := Lib.hid hc0; have HNW := Lib.hid hNw; have HZ := Lib.hid hz; have HX := Lib.hid hX; have HA := Lib.hid hA; have HW := Lib.hid hwr
  clear hk0 hbelow hc0 hNw hbox hw1 hk hI hI0 hb hW hok hm hN hT hz hlen hcap hkk ew hX hA hwr
  go_enter Tryz.func35, Tryz.ntmps35
  obtain ⟨a0, a1, a2, a3, a4, a5, a6, a7, al⟩ := HC0.out _ (HB.out _ HW.out)
  go_wp2_with (fail)
  refine (HK0.out (w.alloc (.cells #[.int .u8 4, .int .u8 op, .int .i64 pl, .int .i64 nn, .string nm, .string ar, .string ex, .slice (some ⟨b, o, none⟩) 1 c] 29)) _ (by simp) (HB.out _ HW.out) HA.out).mono ?_
  rintro e v0 h0
  have hR0 := h0.after ((Wrote.refl N (w.alloc (.cells #[.int .u8 4, .int .u8 op, .int .i64 pl, .int .i64 nn, .string nm, .string ar, .string ex, .slice (some ⟨b, o, none⟩) 1 c] 29))).alloc (.cells #[.string ⟨#[102, 115, 116]⟩] 9))
  obtain rfl := h0.1
  have hX0 := box_kept HX.out HNW.out hR0.2.2
  have hW0 := HW.out.trans hR0.2.2
  have HR0 := Lib.hid hR0; have HX0 := Lib.hid hX0; have HW0 := Lib.hid hW0; have HA0 := Lib.hid hR0.2.1
  clear h0 hR0 hX0 hW0 a0 a1 a2 a3 a4 a5 a6 a7 al
  clear HX HW HA
  have HX := HX0; have HW := HW0; have HA := HA0
  clear HX0 HW0 HA0
  go_wp2_with (fail)
  go_end0
  exact ⟨rfl, (by have h := HA.out; simp only [List.append_assoc, List.cons_append, List.nil_append] at h ⊢; exact h), HW.out⟩
end Show
end Go.Proofs.YtkcadkjpneoobaaGreatDoor
namespace Go.Proofs.YtkcadkjpneoobaaGreatDoor
open Go.RowKit
set_option linter.unusedVariables false
set_option linter.unusedSimpArgs false
namespace Show
open Parse (wLet wLetrec wIn wFn wIf wThen wElse wRaise wTry wWith wRef wFst wSnd wExn wIs wArrow wPut wLess wAdd wSub wMul wGet wOpen wShut wComma wSemi)
open Term (Tm Hd TmIs Kids tget wt wts okT okK)
open Words (StrsAt sel)
set_option maxRecDepth 10000 in
set_option maxHeartbeats 6400000 in
theorem term_snd (w0 : World) (N m : Nat) (hN : w0.heap.size ≤ N) (hT : TermOf w0 N m) (t : Tm) (op pl nn : Int) (nm ar ex : ByteArray) (p : Option Addr) (l c : Nat) (ss : List ByteArray) (w : World)
    (hm : wt t ≤ m + 1) (hok : okT t = true) (hI : TmIs w0 ⟨5, op, pl, nn, nm, ar, ex⟩ p l c t) (hb : Below w0.heap.size w0 w) (hW : WAt N ss w) (hz : ss.length + (wordsT t).length ≤ 1000000) :
    Calls Tryz.prog 35 #[.pointer (some ⟨N, 0, none⟩), .agg #[.int .u8 5, .int .u8 op, .int .i64 pl, .int .i64 nn, .string nm, .string ar, .string ex, .slice p l c]] w (WEnd N (ss ++ wordsT t) w) := by
  have hbox : ∀ O : Obj, Below w.heap.size w (w.alloc O) := fun O => (Below.refl _ _).alloc (Nat.le_refl _) O
  have hNw := hW.lt
  have hlen := hI.len
  have hkk := (ok_kids hok).1
  rw [hI.head] at hkk
  obtain rfl : l = 1 := by have e : Term.kidsN 5 = 1 := by decide
                           have hkk' : Term.kidsN 5 = (t.ks.length : Int) := hkk
                           omega
  obtain ⟨b, o, rfl, hk⟩ := kids_at hI (by omega)
  obtain ⟨q0, d0, hI0, hc0⟩ := hk 0 (by omega)
  rw [show o + 0 * 8 = o from by omega] at hc0
  have hcap := hI.cap
  have ew : wordsT t = [wSnd] ++ asW 6 (kdT (tget t.ks 0)) := by
    rw [wordsT_eq, hI.head]
    unfold comb
    have z0 : ∀ u : Tm, asW 0 (kdT u) = (kdT u).2 := fun u => asW_zero u
    simp [z0, kd_get (show 0 < t.ks.length by omega)]
  rw [ew] at hz ⊢
  simp only [List.length_append, List.length_cons, List.length_nil] at hz
  have hbelow : ∀ W, Wrote N w W → Below w0.heap.size w0 W := fun W hw => ⟨hw.os.trans hb.os, hw.tape.trans hb.tape, hw.output.trans hb.output, Nat.le_trans hb.size hw.size, fun k hk => (hw.low k (Nat.lt_of_lt_of_le hk hb.size) (by omega)).trans (hb.block k hk)⟩
  have hw1 : ∀ O : Obj, Wrote N w (w.alloc O) := fun O => Wrote.of_below (hbox O)
  have hk0 := fun W M (hM : M = W.heap.size) (hb : Below w0.heap.size w0 W) (hW : WAt N (ss) W) => kid_walk w0 N m hN hT (tget t.ks 0) _ q0 _ d0 6 [wSnd] (some ⟨M, 0, none⟩) 1 1 (ss) (W.alloc (.cells #[.string ⟨#[115, 110, 100]⟩] 9)) (kid_wt (by omega) hm) (kid_ok (by omega) hok) hI0 (hb.alloc hb.size _) (hW.alloc _) (hM ▸ Src.new W [wSnd] _ _) (by simp only [List.length_append, List.length_cons, List.length_nil]; omega)
  have hcl : c ≤ 9223372036854775807 := by have := hcap.2; unfold maxLen at this; exact this
  have hcq := hcap.1
  have hX : (w.alloc (.cells #[.int .u8 5, .int .u8 op, .int .i64 pl, .int .i64 nn, .string nm, .string ar, .string ex, .slice (some ⟨b, o, none⟩) 1 c] 29)).heap[w.heap.size]? = some (.cells #[.int .u8 5, .int .u8 op, .int .i64 pl, .int .i64 nn, .string nm, .string ar, .string ex, .slice (some ⟨b, o, none⟩) 1 c] 29 (0, 0)) := heap_alloc_new w _
  have hA : WAt N ss (w.alloc (.cells #[.int .u8 5, .int .u8 op, .int .i64 pl, .int .i64 nn, .string nm, .string ar, .string ex, .slice (some ⟨b, o, none⟩) 1 c] 29)) := hW.alloc _
  have hwr := hw1 (.cells #[.int .u8 5, .int .u8 op, .int .i64 pl, .int .i64 nn, .string nm, .string ar, .string ex, .slice (some ⟨b, o, none⟩) 1 c] 29)
  have HK0 := Lib.hid hk0; have HB := Lib.hid hbelow; have HC0 := Lib.hid hc0; have HNW := Lib.hid hNw; have HZ := Lib.hid hz; have HX := Lib.hid hX; have HA := Lib.hid hA; have HW := Lib.hid hwr
  clear hk0 hbelow hc0 hNw hbox hw1 hk hI hI0 hb hW hok hm hN hT hz hlen hcap hkk ew hX hA hwr
  go_enter Tryz.func35, Tryz.ntmps35
  obtain ⟨a0, a1, a2, a3, a4, a5, a6, a7, al⟩ := HC0.out _ (HB.out _ HW.out)
  go_wp2_with (fail)
  refine (HK0.out (w.alloc (.cells #[.int .u8 5, .int .u8 op, .int .i64 pl, .int .i64 nn, .string nm, .string ar, .string ex, .slice (some ⟨b, o, none⟩) 1 c] 29)) _ (by simp) (HB.out _ HW.out) HA.out).mono ?_
  rintro e v0 h0
  have hR0 := h0.after ((Wrote.refl N (w.alloc (.cells #[.int .u8 5, .int .u8 op, .int .i64 pl, .int .i64 nn, .string nm, .string ar, .string ex, .slice (some ⟨b, o, none⟩) 1 c] 29))).alloc (.cells #[.string ⟨#[115, 110, 100]⟩] 9))
  obtain rfl := h0.1
  have hX0 := box_kept HX.out HNW.out hR0.2.2
  have hW0 := HW.out.trans hR0.2.2
  have HR0 := Lib.hid hR0; have HX0 := Lib.hid hX0; have HW0 := Lib.hid hW0; have HA0 := Lib.hid hR0.2.1
  clear h0 hR0 hX0 hW0 a0 a1 a2 a3 a4 a5 a6 a7 al
  clear HX HW HA
  have HX := HX0; have HW := HW0; have HA := HA0
  clear HX0 HW0 HA0
  go_wp2_with (fail)
  go_end0
  exact ⟨rfl, (by have h := HA.out; simp only [List.append_assoc, List.cons_append, List.nil_append] at h ⊢; exact h), HW.out⟩
end Show
end Go.Proofs.YtkcadkjpneoobaaGreatDoor
namespace Go.Proofs.YtkcadkjpneoobaaGreatDoor
open Go.RowKit
set_option linter.unusedVariables false
set_option linter.unusedSimpArgs false
namespace Show
open Parse (wLet wLetrec wIn wFn wIf wThen wElse wRaise wTry wWith wRef wFst wSnd wExn wIs wArrow wPut wLess wAdd wSub wMul wGet wOpen wShut wComma wSemi)
open Term (Tm Hd TmIs Kids tget wt wts okT okK)
open Words (StrsAt sel)
set_option maxRecDepth 10000 in
set_option maxHeartbeats 6400000 in
theorem term_ref (w0 : World) (N m : Nat) (hN : w0.heap.size ≤ N) (hT : TermOf w0 N m) (t : Tm) (op pl nn : Int) (nm ar ex : ByteArray) (p : Option Addr) (l c : Nat) (ss : List ByteArray) (w : World)
    (hm : wt t ≤ m + 1) (hok : okT t = true) (hI : TmIs w0 ⟨6, op, pl, nn, nm, ar, ex⟩ p l c t) (hb : Below w0.heap.size w0 w) (hW : WAt N ss w) (hz : ss.length + (wordsT t).length ≤ 1000000) :
    Calls Tryz.prog 35 #[.pointer (some ⟨N, 0, none⟩), .agg #[.int .u8 6, .int .u8 op, .int .i64 pl, .int .i64 nn, .string nm, .string ar, .string ex, .slice p l c]] w (WEnd N (ss ++ wordsT t) w) := by
  have hbox : ∀ O : Obj, Below w.heap.size w (w.alloc O) := fun O => (Below.refl _ _).alloc (Nat.le_refl _) O
  have hNw := hW.lt
  have hlen := hI.len
  have hkk := (ok_kids hok).1
  rw [hI.head] at hkk
  obtain rfl : l = 1 := by have e : Term.kidsN 6 = 1 := by decide
                           have hkk' : Term.kidsN 6 = (t.ks.length : Int) := hkk
                           omega
  obtain ⟨b, o, rfl, hk⟩ := kids_at hI (by omega)
  obtain ⟨q0, d0, hI0, hc0⟩ := hk 0 (by omega)
  rw [show o + 0 * 8 = o from by omega] at hc0
  have hcap := hI.cap
  have ew : wordsT t = [wRef] ++ asW 6 (kdT (tget t.ks 0)) := by
    rw [wordsT_eq, hI.head]
    unfold comb
    have z0 : ∀ u : Tm, asW 0 (kdT u) = (kdT u).2 := fun u => asW_zero u
    simp [z0, kd_get (show 0 < t.ks.length by omega)]
  rw [ew] at hz ⊢
  simp only [List.length_append, List.length_cons, List.length_nil] at hz
  have hbelow : ∀ W, Wrote N w W → Below w0.heap.size w0 W := fun W hw => ⟨hw.os.trans hb.os, hw.tape.trans hb.tape, hw.output.trans hb.output, Nat.le_trans hb.size hw.size, fun k hk => (hw.low k (Nat.lt_of_lt_of_le hk hb.size) (by omega)).trans (hb.block k hk)⟩
  have hw1 : ∀ O : Obj, Wrote N w (w.alloc O) := fun O => Wrote.of_below (hbox O)
  have hk0 := fun W M (hM : M = W.heap.size) (hb : Below w0.heap.size w0 W) (hW : WAt N (ss) W) => kid_walk w0 N m hN hT (tget t.ks 0) _ q0 _ d0 6 [wRef] (some ⟨M, 0, none⟩) 1 1 (ss) (W.alloc (.cells #[.string ⟨#[114, 101, 102]⟩] 9)) (kid_wt (by omega) hm) (kid_ok (by omega) hok) hI0 (hb.alloc hb.size _) (hW.alloc _) (hM ▸ Src.new W [wRef] _ _) (by simp only [List.length_append, List.length_cons, List.length_nil]; omega)
  have hcl : c ≤ 9223372036854775807 := by have := hcap.2; unfold maxLen at this; exact this
  have hcq := hcap.1
  have hX : (w.alloc (.cells #[.int .u8 6, .int .u8 op, .int .i64 pl, .int .i64 nn, .string nm, .string ar, .string ex, .slice (some ⟨b, o, none⟩) 1 c] 29)).heap[w.heap.size]? = some (.cells #[.int .u8 6, .int .u8 op, .int .i64 pl, .int .i64 nn, .string nm, .string ar, .string ex, .slice (some ⟨b, o, none⟩) 1 c] 29 (0, 0)) := heap_alloc_new w _
  have hA : WAt N ss (w.alloc (.cells #[.int .u8 6, .int .u8 op, .int .i64 pl, .int .i64 nn, .string nm, .string ar, .string ex, .slice (some ⟨b, o, none⟩) 1 c] 29)) := hW.alloc _
  have hwr := hw1 (.cells #[.int .u8 6, .int .u8 op, .int .i64 pl, .int .i64 nn, .string nm, .string ar, .string ex, .slice (some ⟨b, o, none⟩) 1 c] 29)
  have HK0 := Lib.hid hk0; have HB := Lib.hid hbelow; have HC0 := Lib.hid hc0; have HNW := Lib.hid hNw; have HZ := Lib.hid hz; have HX := Lib.hid hX; have HA := Lib.hid hA; have HW := Lib.hid hwr
  clear hk0 hbelow hc0 hNw hbox hw1 hk hI hI0 hb hW hok hm hN hT hz hlen hcap hkk ew hX hA hwr
  go_enter Tryz.func35, Tryz.ntmps35
  obtain ⟨a0, a1, a2, a3, a4, a5, a6, a7, al⟩ := HC0.out _ (HB.out _ HW.out)
  go_wp2_with (fail)
  refine (HK0.out (w.alloc (.cells #[.int .u8 6, .int .u8 op, .int .i64 pl, .int .i64 nn, .string nm, .string ar, .string ex, .slice (some ⟨b, o, none⟩) 1 c] 29)) _ (by simp) (HB.out _ HW.out) HA.out).mono ?_
  rintro e v0 h0
  have hR0 := h0.after ((Wrote.refl N (w.alloc (.cells #[.int .u8 6, .int .u8 op, .int .i64 pl, .int .i64 nn, .string nm, .string ar, .string ex, .slice (some ⟨b, o, none⟩) 1 c] 29))).alloc (.cells #[.string ⟨#[114, 101, 102]⟩] 9))
  obtain rfl := h0.1
  have hX0 := box_kept HX.out HNW.out hR0.2.2
  have hW0 := HW.out.trans hR0.2.2
  have HR0 := Lib.hid hR0; have HX0 := Lib.hid hX0; have HW0 := Lib.hid hW0; have HA0 := Lib.hid hR0.2.1
  clear h0 hR0 hX0 hW0 a0 a1 a2 a3 a4 a5 a6 a7 al
  clear HX HW HA
  have HX := HX0; have HW := HW0; have HA := HA0
  clear HX0 HW0 HA0
  go_wp2_with (fail)
  go_end0
  exact ⟨rfl, (by have h := HA.out; simp only [List.append_assoc, List.cons_append, List.nil_append] at h ⊢; exact h), HW.out⟩
end Show
end Go.Proofs.YtkcadkjpneoobaaGreatDoor
namespace Go.Proofs.YtkcadkjpneoobaaGreatDoor
open Go.RowKit
set_option linter.unusedVariables false
set_option linter.unusedSimpArgs false
namespace Show
open Parse (wLet wLetrec wIn wFn wIf wThen wElse wRaise wTry wWith wRef wFst wSnd wExn wIs wArrow wPut wLess wAdd wSub wMul wGet wOpen wShut wComma wSemi)
open Term (Tm Hd TmIs Kids tget wt wts okT okK)
open Words (StrsAt sel)
set_option maxRecDepth 10000 in
set_option maxHeartbeats 6400000 in
theorem term_get (w0 : World) (N m : Nat) (hN : w0.heap.size ≤ N) (hT : TermOf w0 N m) (t : Tm) (op pl nn : Int) (nm ar ex : ByteArray) (p : Option Addr) (l c : Nat) (ss : List ByteArray) (w : World)
    (hm : wt t ≤ m + 1) (hok : okT t = true) (hI : TmIs w0 ⟨7, op, pl, nn, nm, ar, ex⟩ p l c t) (hb : Below w0.heap.size w0 w) (hW : WAt N ss w) (hz : ss.length + (wordsT t).length ≤ 1000000) :
    Calls Tryz.prog 35 #[.pointer (some ⟨N, 0, none⟩), .agg #[.int .u8 7, .int .u8 op, .int .i64 pl, .int .i64 nn, .string nm, .string ar, .string ex, .slice p l c]] w (WEnd N (ss ++ wordsT t) w) := by
  have hbox : ∀ O : Obj, Below w.heap.size w (w.alloc O) := fun O => (Below.refl _ _).alloc (Nat.le_refl _) O
  have hNw := hW.lt
  have hlen := hI.len
  have hkk := (ok_kids hok).1
  rw [hI.head] at hkk
  obtain rfl : l = 1 := by have e : Term.kidsN 7 = 1 := by decide
                           have hkk' : Term.kidsN 7 = (t.ks.length : Int) := hkk
                           omega
  obtain ⟨b, o, rfl, hk⟩ := kids_at hI (by omega)
  obtain ⟨q0, d0, hI0, hc0⟩ := hk 0 (by omega)
  rw [show o + 0 * 8 = o from by omega] at hc0
  have hcap := hI.cap
  have ew : wordsT t = [wGet] ++ asW 6 (kdT (tget t.ks 0)) := by
    rw [wordsT_eq, hI.head]
    unfold comb
    have z0 : ∀ u : Tm, asW 0 (kdT u) = (kdT u).2 := fun u => asW_zero u
    simp [z0, kd_get (show 0 < t.ks.length by omega)]
  rw [ew] at hz ⊢
  simp only [List.length_append, List.length_cons, List.length_nil] at hz
  have hbelow : ∀ W, Wrote N w W → Below w0.heap.size w0 W := fun W hw => ⟨hw.os.trans hb.os, hw.tape.trans hb.tape, hw.output.trans hb.output, Nat.le_trans hb.size hw.size, fun k hk => (hw.low k (Nat.lt_of_lt_of_le hk hb.size) (by omega)).trans (hb.block k hk)⟩
  have hw1 : ∀ O : Obj, Wrote N w (w.alloc O) := fun O => Wrote.of_below (hbox O)
  have hk0 := fun W M (hM : M = W.heap.size) (hb : Below w0.heap.size w0 W) (hW : WAt N (ss) W) => kid_walk w0 N m hN hT (tget t.ks 0) _ q0 _ d0 6 [wGet] (some ⟨M, 0, none⟩) 1 1 (ss) (W.alloc (.cells #[.string ⟨#[33]⟩] 9)) (kid_wt (by omega) hm) (kid_ok (by omega) hok) hI0 (hb.alloc hb.size _) (hW.alloc _) (hM ▸ Src.new W [wGet] _ _) (by simp only [List.length_append, List.length_cons, List.length_nil]; omega)
  have hcl : c ≤ 9223372036854775807 := by have := hcap.2; unfold maxLen at this; exact this
  have hcq := hcap.1
  have hX : (w.alloc (.cells #[.int .u8 7, .int .u8 op, .int .i64 pl, .int .i64 nn, .string nm, .string ar, .string ex, .slice (some ⟨b, o, none⟩) 1 c] 29)).heap[w.heap.size]? = some (.cells #[.int .u8 7, .int .u8 op, .int .i64 pl, .int .i64 nn, .string nm, .string ar, .string ex, .slice (some ⟨b, o, none⟩) 1 c] 29 (0, 0)) := heap_alloc_new w _
  have hA : WAt N ss (w.alloc (.cells #[.int .u8 7, .int .u8 op, .int .i64 pl, .int .i64 nn, .string nm, .string ar, .string ex, .slice (some ⟨b, o, none⟩) 1 c] 29)) := hW.alloc _
  have hwr := hw1 (.cells #[.int .u8 7, .int .u8 op, .int .i64 pl, .int .i64 nn, .string nm, .string ar, .string ex, .slice (some ⟨b, o, none⟩) 1 c] 29)
  have HK0 := Lib.hid hk0; have HB := Lib.hid hbelow; have HC0 := Lib.hid hc0; have HNW := Lib.hid hNw; have HZ := Lib.hid hz; have HX := Lib.hid hX; have HA := Lib.hid hA; have HW := Lib.hid hwr
  clear hk0 hbelow hc0 hNw hbox hw1 hk hI hI0 hb hW hok hm hN hT hz hlen hcap hkk ew hX hA hwr
  go_enter Tryz.func35, Tryz.ntmps35
  obtain ⟨a0, a1, a2, a3, a4, a5, a6, a7, al⟩ := HC0.out _ (HB.out _ HW.out)
  go_wp2_with (fail)
  refine (HK0.out (w.alloc (.cells #[.int .u8 7, .int .u8 op, .int .i64 pl, .int .i64 nn, .string nm, .string ar, .string ex, .slice (some ⟨b, o, none⟩) 1 c] 29)) _ (by simp) (HB.out _ HW.out) HA.out).mono ?_
  rintro e v0 h0
  have hR0 := h0.after ((Wrote.refl N (w.alloc (.cells #[.int .u8 7, .int .u8 op, .int .i64 pl, .int .i64 nn, .string nm, .string ar, .string ex, .slice (some ⟨b, o, none⟩) 1 c] 29))).alloc (.cells #[.string ⟨#[33]⟩] 9))
  obtain rfl := h0.1
  have hX0 := box_kept HX.out HNW.out hR0.2.2
  have hW0 := HW.out.trans hR0.2.2
  have HR0 := Lib.hid hR0; have HX0 := Lib.hid hX0; have HW0 := Lib.hid hW0; have HA0 := Lib.hid hR0.2.1
  clear h0 hR0 hX0 hW0 a0 a1 a2 a3 a4 a5 a6 a7 al
  clear HX HW HA
  have HX := HX0; have HW := HW0; have HA := HA0
  clear HX0 HW0 HA0
  go_wp2_with (fail)
  go_end0
  exact ⟨rfl, (by have h := HA.out; simp only [List.append_assoc, List.cons_append, List.nil_append] at h ⊢; exact h), HW.out⟩
end Show
end Go.Proofs.YtkcadkjpneoobaaGreatDoor
namespace Go.Proofs.YtkcadkjpneoobaaGreatDoor
open Go.RowKit
set_option linter.unusedVariables false
set_option linter.unusedSimpArgs false
namespace Show
open Parse (wLet wLetrec wIn wFn wIf wThen wElse wRaise wTry wWith wRef wFst wSnd wExn wIs wArrow wPut wLess wAdd wSub wMul wGet wOpen wShut wComma wSemi)
open Term (Tm Hd TmIs Kids tget wt wts okT okK)
open Words (StrsAt sel)
set_option maxRecDepth 10000 in
set_option maxHeartbeats 6400000 in
theorem term_raise (w0 : World) (N m : Nat) (hN : w0.heap.size ≤ N) (hT : TermOf w0 N m) (t : Tm) (op pl nn : Int) (nm ar ex : ByteArray) (p : Option Addr) (l c : Nat) (ss : List ByteArray) (w : World)
    (hm : wt t ≤ m + 1) (hok : okT t = true) (hI : TmIs w0 ⟨15, op, pl, nn, nm, ar, ex⟩ p l c t) (hb : Below w0.heap.size w0 w) (hW : WAt N ss w) (hz : ss.length + (wordsT t).length ≤ 1000000) :
    Calls Tryz.prog 35 #[.pointer (some ⟨N, 0, none⟩), .agg #[.int .u8 15, .int .u8 op, .int .i64 pl, .int .i64 nn, .string nm, .string ar, .string ex, .slice p l c]] w (WEnd N (ss ++ wordsT t) w) := by
  have hbox : ∀ O : Obj, Below w.heap.size w (w.alloc O) := fun O => (Below.refl _ _).alloc (Nat.le_refl _) O
  have hNw := hW.lt
  have hlen := hI.len
  have hkk := (ok_kids hok).1
  rw [hI.head] at hkk
  obtain rfl : l = 1 := by have e : Term.kidsN 15 = 1 := by decide
                           have hkk' : Term.kidsN 15 = (t.ks.length : Int) := hkk
                           omega
  obtain ⟨b, o, rfl, hk⟩ := kids_at hI (by omega)
  obtain ⟨q0, d0, hI0, hc0⟩ := hk 0 (by omega)
  rw [show o + 0 * 8 = o from by omega] at hc0
  have hcap := hI.cap
  have ew : wordsT t = [wRaise, ex] ++ asW 6 (kdT (tget t.ks 0)) := by
    rw [wordsT_eq, hI.head]
    unfold comb
    have z0 : ∀ u : Tm, asW 0 (kdT u) = (kdT u).2 := fun u => asW_zero u
    simp [z0, kd_get (show 0 < t.ks.length by omega)]
  rw [ew] at hz ⊢
  simp only [List.length_append, List.length_cons, List.length_nil] at hz
  have hbelow : ∀ W, Wrote N w W → Below w0.heap.size w0 W := fun W hw => ⟨hw.os.trans hb.os, hw.tape.trans hb.tape, hw.output.trans hb.output, Nat.le_trans hb.size hw.size, fun k hk => (hw.low k (Nat.lt_of_lt_of_le hk hb.size) (by omega)).trans (hb.block k hk)⟩
  have hw1 : ∀ O : Obj, Wrote N w (w.alloc O) := fun O => Wrote.of_below (hbox O)
  have hk0 := fun W M (hM : M = W.heap.size) (hb : Below w0.heap.size w0 W) (hW : WAt N (ss) W) => kid_walk w0 N m hN hT (tget t.ks 0) _ q0 _ d0 6 [wRaise, ex] (some ⟨M, 0, none⟩) 2 2 (ss) (W.alloc (.cells #[.string ⟨#[114, 97, 105, 115, 101]⟩, .string ex] 9)) (kid_wt (by omega) hm) (kid_ok (by omega) hok) hI0 (hb.alloc hb.size _) (hW.alloc _) (hM ▸ Src.new W [wRaise, ex] _ _) (by simp only [List.length_append, List.length_cons, List.length_nil]; omega)
  have hcl : c ≤ 9223372036854775807 := by have := hcap.2; unfold maxLen at this; exact this
  have hcq := hcap.1
  have hX : (w.alloc (.cells #[.int .u8 15, .int .u8 op, .int .i64 pl, .int .i64 nn, .string nm, .string ar, .string ex, .slice (some ⟨b, o, none⟩) 1 c] 29)).heap[w.heap.size]? = some (.cells #[.int .u8 15, .int .u8 op, .int .i64 pl, .int .i64 nn, .string nm, .string ar, .string ex, .slice (some ⟨b, o, none⟩) 1 c] 29 (0, 0)) := heap_alloc_new w _
  have hA : WAt N ss (w.alloc (.cells #[.int .u8 15, .int .u8 op, .int .i64 pl, .int .i64 nn, .string nm, .string ar, .string ex, .slice (some ⟨b, o, none⟩) 1 c] 29)) := hW.alloc _
  have hwr := hw1 (.cells #[.int .u8 15, .int .u8 op, .int .i64 pl, .int .i64 nn, .string nm, .string ar, .string ex, .slice (some ⟨b, o, none⟩) 1 c] 29)
  have HK0 := Lib.hid hk0; have HB := Lib.hid hbelow; have HC0 := Lib.hid hc0; have HNW := Lib.hid hNw; have HZ := Lib.hid hz; have HX := Lib.hid hX; have HA := Lib.hid hA; have HW := Lib.hid hwr
  clear hk0 hbelow hc0 hNw hbox hw1 hk hI hI0 hb hW hok hm hN hT hz hlen hcap hkk ew hX hA hwr
  go_enter Tryz.func35, Tryz.ntmps35
  obtain ⟨a0, a1, a2, a3, a4, a5, a6, a7, al⟩ := HC0.out _ (HB.out _ HW.out)
  go_wp2_with (fail)
  clear a0 a1 a2 a3 a4 a5 a6 a7 al
  refine wp_region_held_drew (S := fun V => V.heap[w.heap.size]? = some (.cells #[.int .u8 15, .int .u8 op, .int .i64 pl, .int .i64 nn, .string nm, .string ar, .string ex, .slice (some ⟨b, o, none⟩) 1 c] 29 (0, 0)) ∧ Below w0.heap.size w0 V) (by kernel_rfl) ⟨HX.out, HB.out _ HW.out.drew⟩ (fun hHeld => ?_)
  refine wpAnyH_take (i := 0) (v := .pointer (some ⟨N, 0, none⟩)) rfl (by kernel_rfl) (by kernel_rfl) (by kernel_rfl) (fun _ _ _ h => h) (Or.inl ⟨by rfl, ?_⟩) (by assumption) ?_
  · intro w' hSw
    first | go_simp | rfl
  try simp only [Act.put, List.setIfInBounds_toArray, List.set_cons_zero, List.set_cons_succ, List.getElem_toArray, List.getElem_cons_succ, List.getElem_cons_zero]
  refine wpAnyH_take (i := 1) (v := .pointer (some ⟨w.heap.size, 7, none⟩)) rfl (by kernel_rfl) (by kernel_rfl) (by kernel_rfl) (fun _ _ _ h => h) (Or.inl ⟨by rfl, ?_⟩) (by assumption) ?_
  · intro w' hSw
    first | go_simp | rfl
  try simp only [Act.put, List.setIfInBounds_toArray, List.set_cons_zero, List.set_cons_succ, List.getElem_toArray, List.getElem_cons_succ, List.getElem_cons_zero]
  refine wpAnyH_take (i := 2) (v := .slice (some ⟨b, o, none⟩) 1 c) rfl (by kernel_rfl) (by kernel_rfl) (by kernel_rfl) (fun _ _ _ h => h) (Or.inl ⟨by rfl, ?_⟩) (by assumption) ?_
  · intro w' hSw
    obtain ⟨⟨b0, b1, b2, b3, b4, b5, b6, b7⟩, f0, f1, f2, f3, f4, f5, f6, f7⟩ := Parse.cells8' hSw.1
    first | go_simp | rfl
  try simp only [Act.put, List.setIfInBounds_toArray, List.set_cons_zero, List.set_cons_succ, List.getElem_toArray, List.getElem_cons_succ, List.getElem_cons_zero]
  refine wpAnyH_take (i := 3) (v := .pointer (some ⟨b, o, none⟩)) rfl (by kernel_rfl) (by kernel_rfl) (by kernel_rfl) (fun _ _ _ h => h) (Or.inl ⟨by rfl, ?_⟩) (by assumption) ?_
  · intro w' hSw
    first | go_simp | rfl
  try simp only [Act.put, List.setIfInBounds_toArray, List.set_cons_zero, List.set_cons_succ, List.getElem_toArray, List.getElem_cons_succ, List.getElem_cons_zero]
  refine wpAnyH_take (i := 4) (v := .agg #[.int .u8 (tget t.ks 0).h.k, .int .u8 (tget t.ks 0).h.op, .int .i64 (tget t.ks 0).h.pl, .int .i64 (tget t.ks 0).h.n, .string (tget t.ks 0).h.name, .string (tget t.ks 0).h.arg, .string (tget t.ks 0).h.exn, .slice q0 (tget t.ks 0).ks.length d0]) rfl (by kernel_rfl) (by kernel_rfl) (by kernel_rfl) (fun _ _ _ h => h) (Or.inl ⟨by rfl, ?_⟩) (by assumption) ?_
  · intro w' hSw
    obtain ⟨a0, a1, a2, a3, a4, a5, a6, a7, al⟩ := HC0.out _ hSw.2
    first | go_simp | rfl
  try simp only [Act.put, List.setIfInBounds_toArray, List.set_cons_zero, List.set_cons_succ, List.getElem_toArray, List.getElem_cons_succ, List.getElem_cons_zero]
  refine wpAnyH_take (i := 5) (v := .pointer (some ⟨w.heap.size, 0, none⟩)) rfl (by kernel_rfl) (by kernel_rfl) (by kernel_rfl) (fun _ _ _ h => h) (Or.inl ⟨by rfl, ?_⟩) (by assumption) ?_
  · intro w' hSw
    first | go_simp | rfl
  try simp only [Act.put, List.setIfInBounds_toArray, List.set_cons_zero, List.set_cons_succ, List.getElem_toArray, List.getElem_cons_succ, List.getElem_cons_zero]
  refine wpAnyH_take (i := 6) (v := .pointer (some ⟨w.heap.size, 6, none⟩)) rfl (by kernel_rfl) (by kernel_rfl) (by kernel_rfl) (fun _ _ _ h => h) (Or.inl ⟨by rfl, ?_⟩) (by assumption) ?_
  · intro w' hSw
    first | go_simp | rfl
  try simp only [Act.put, List.setIfInBounds_toArray, List.set_cons_zero, List.set_cons_succ, List.getElem_toArray, List.getElem_cons_succ, List.getElem_cons_zero]
  refine wpAnyH_take (i := 7) (v := .string ex) rfl (by kernel_rfl) (by kernel_rfl) (by kernel_rfl) (fun _ _ _ h => h) (Or.inl ⟨by rfl, ?_⟩) (by assumption) ?_
  · intro w' hSw
    obtain ⟨⟨b0, b1, b2, b3, b4, b5, b6, b7⟩, f0, f1, f2, f3, f4, f5, f6, f7⟩ := Parse.cells8' hSw.1
    first | go_simp | rfl
  try simp only [Act.put, List.setIfInBounds_toArray, List.set_cons_zero, List.set_cons_succ, List.getElem_toArray, List.getElem_cons_succ, List.getElem_cons_zero]
  refine wpAnyH_ready (rs := [8]) (by kernel_rfl) (by simp) ?_
  refine AllReadyH.cons rfl (fun K hK => ?_) AllReadyH.nil
  go_simp
  have hX : ((w.alloc (.cells #[.int .u8 15, .int .u8 op, .int .i64 pl, .int .i64 nn, .string nm, .string ar, .string ex, .slice (some ⟨b, o, none⟩) 1 c] 29)).drew.alloc (.cells #[.string ⟨#[114, 97, 105, 115, 101]⟩, .string ex] 9)).heap[w.heap.size]? = some (.cells #[.int .u8 15, .int .u8 op, .int .i64 pl, .int .i64 nn, .string nm, .string ar, .string ex, .slice (some ⟨b, o, none⟩) 1 c] 29 (0, 0)) ∧ Below w0.heap.size w0 ((w.alloc (.cells #[.int .u8 15, .int .u8 op, .int .i64 pl, .int .i64 nn, .string nm, .string ar, .string ex, .slice (some ⟨b, o, none⟩) 1 c] 29)).drew.alloc (.cells #[.string ⟨#[114, 97, 105, 115, 101]⟩, .string ex] 9)) := ⟨(Below.heap_alloc _ _ _ (lt_of_block hHeld.1)).trans hHeld.1, hHeld.2.alloc hHeld.2.size _⟩
  refine hK.out _ _ hX (fun hHeld => ?_)
  try simp only [Act.put, List.setIfInBounds_toArray, List.set_cons_zero, List.set_cons_succ, List.getElem_toArray, List.getElem_cons_succ, List.getElem_cons_zero]
  clear hK hX K
  refine wpAnyH_ready (rs := [9]) (by kernel_rfl) (by simp) ?_
  refine AllReadyH.cons rfl (fun K hK => ?_) AllReadyH.nil
  go_simp
  refine (HK0.out (w.alloc (.cells #[.int .u8 15, .int .u8 op, .int .i64 pl, .int .i64 nn, .string nm, .string ar, .string ex, .slice (some ⟨b, o, none⟩) 1 c] 29)).drew _ (by first | rfl | exact (heap_alloc_size _ _).symm) (HB.out _ HW.out.drew) HA.out.drew).mono ?_
  rintro e v0 h0
  have hR0 := h0.after (((Wrote.refl N (w.alloc (.cells #[.int .u8 15, .int .u8 op, .int .i64 pl, .int .i64 nn, .string nm, .string ar, .string ex, .slice (some ⟨b, o, none⟩) 1 c] 29))).drew).alloc (.cells #[.string ⟨#[114, 97, 105, 115, 101]⟩, .string ex] 9))
  obtain rfl := h0.1
  have hX0 := box_kept HX.out HNW.out hR0.2.2
  have hW0 := HW.out.trans hR0.2.2
  have HR0 := Lib.hid hR0; have HX0 := Lib.hid hX0; have HW0 := Lib.hid hW0; have HA0 := Lib.hid hR0.2.1
  refine hK.out _ _ ⟨HX0.out, HB.out _ HW0.out⟩ (fun hHeld => ?_)
  refine wpAnyH_done (by kernel_rfl) ?_ _
  clear hK hHeld K
  clear h0 hR0 hX0 hW0
  clear HX HW HA
  have HX := HX0; have HW := HW0; have HA := HA0
  clear HX0 HW0 HA0
  go_wp2_with (fail)
  go_end0
  exact ⟨rfl, (by have h := HA.out; simp only [List.append_assoc, List.cons_append, List.nil_append] at h ⊢; exact h), HW.out⟩
end Show
end Go.Proofs.YtkcadkjpneoobaaGreatDoor
namespace Go.Proofs.YtkcadkjpneoobaaGreatDoor
open Go.RowKit
set_option linter.unusedVariables false
set_option linter.unusedSimpArgs false
namespace Show
open Parse (wLet wLetrec wIn wFn wIf wThen wElse wRaise wTry wWith wRef wFst wSnd wExn wIs wArrow wPut wLess wAdd wSub wMul wGet wOpen wShut wComma wSemi)
open Term (Tm Hd TmIs Kids tget wt wts okT okK)
open Words (StrsAt sel)
set_option maxRecDepth 10000 in
set_option maxHeartbeats 6400000 in
theorem term_app (w0 : World) (N m : Nat) (hN : w0.heap.size ≤ N) (hT : TermOf w0 N m) (t : Tm) (op pl nn : Int) (nm ar ex : ByteArray) (p : Option Addr) (l c : Nat) (ss : List ByteArray) (w : World)
    (hm : wt t ≤ m + 1) (hok : okT t = true) (hI : TmIs w0 ⟨10, op, pl, nn, nm, ar, ex⟩ p l c t) (hb : Below w0.heap.size w0 w) (hW : WAt N ss w) (hz : ss.length + (wordsT t).length ≤ 1000000) :
    Calls Tryz.prog 35 #[.pointer (some ⟨N, 0, none⟩), .agg #[.int .u8 10, .int .u8 op, .int .i64 pl, .int .i64 nn, .string nm, .string ar, .string ex, .slice p l c]] w (WEnd N (ss ++ wordsT t) w) := by
  have hbox : ∀ O : Obj, Below w.heap.size w (w.alloc O) := fun O => (Below.refl _ _).alloc (Nat.le_refl _) O
  have hNw := hW.lt
  have hlen := hI.len
  have hkk := (ok_kids hok).1
  rw [hI.head] at hkk
  obtain rfl : l = 2 := by have e : Term.kidsN 10 = 2 := by decide
                           have hkk' : Term.kidsN 10 = (t.ks.length : Int) := hkk
                           omega
  obtain ⟨b, o, rfl, hk⟩ := kids_at hI (by omega)
  obtain ⟨q0, d0, hI0, hc0⟩ := hk 0 (by omega)
  rw [show o + 0 * 8 = o from by omega] at hc0
  obtain ⟨q1, d1, hI1, hc1⟩ := hk 1 (by omega)
  rw [show o + 1 * 8 = o + 8 from by omega] at hc1
  have hcap := hI.cap
  have ew : wordsT t = [] ++ asW 5 (kdT (tget t.ks 0)) ++ [] ++ asW 6 (kdT (tget t.ks 1)) := by
    rw [wordsT_eq, hI.head]
    unfold comb
    have z0 : ∀ u : Tm, asW 0 (kdT u) = (kdT u).2 := fun u => asW_zero u
    simp [z0, kd_get (show 0 < t.ks.length by omega), kd_get (show 1 < t.ks.length by omega)]
  rw [ew] at hz ⊢
  simp only [List.length_append, List.length_cons, List.length_nil] at hz
  have hbelow : ∀ W, Wrote N w W → Below w0.heap.size w0 W := fun W hw => ⟨hw.os.trans hb.os, hw.tape.trans hb.tape, hw.output.trans hb.output, Nat.le_trans hb.size hw.size, fun k hk => (hw.low k (Nat.lt_of_lt_of_le hk hb.size) (by omega)).trans (hb.block k hk)⟩
  have hw1 : ∀ O : Obj, Wrote N w (w.alloc O) := fun O => Wrote.of_below (hbox O)
  have hk0 := fun W (hb : Below w0.heap.size w0 W) (hW : WAt N (ss) W) => kid_walk w0 N m hN hT (tget t.ks 0) _ q0 _ d0 5 [] none 0 0 (ss) W (kid_wt (by omega) hm) (kid_ok (by omega) hok) hI0 hb hW (Src.none W) (by simp only [List.length_append, List.length_cons, List.length_nil]; omega)
  have hk1 := fun W (hb : Below w0.heap.size w0 W) (hW : WAt N (ss ++ ([] ++ asW 5 (kdT (tget t.ks 0)))) W) => kid_walk w0 N m hN hT (tget t.ks 1) _ q1 _ d1 6 [] none 0 0 (ss ++ ([] ++ asW 5 (kdT (tget t.ks 0)))) W (kid_wt (by omega) hm) (kid_ok (by omega) hok) hI1 hb hW (Src.none W) (by simp only [List.length_append, List.length_cons, List.length_nil]; omega)
  have hcl : c ≤ 9223372036854775807 := by have := hcap.2; unfold maxLen at this; exact this
  have hcq := hcap.1
  have hX : (w.alloc (.cells #[.int .u8 10, .int .u8 op, .int .i64 pl, .int .i64 nn, .string nm, .string ar, .string ex, .slice (some ⟨b, o, none⟩) 2 c] 29)).heap[w.heap.size]? = some (.cells #[.int .u8 10, .int .u8 op, .int .i64 pl, .int .i64 nn, .string nm, .string ar, .string ex, .slice (some ⟨b, o, none⟩) 2 c] 29 (0, 0)) := heap_alloc_new w _
  have hA : WAt N ss (w.alloc (.cells #[.int .u8 10, .int .u8 op, .int .i64 pl, .int .i64 nn, .string nm, .string ar, .string ex, .slice (some ⟨b, o, none⟩) 2 c] 29)) := hW.alloc _
  have hwr := hw1 (.cells #[.int .u8 10, .int .u8 op, .int .i64 pl, .int .i64 nn, .string nm, .string ar, .string ex, .slice (some ⟨b, o, none⟩) 2 c] 29)
  have HK0 := Lib.hid hk0; have HK1 := Lib.hid hk1; have HB := Lib.hid hbelow; have HC0 := Lib.hid hc0; have HC1 := Lib.hid hc1; have HNW := Lib.hid hNw; have HZ := Lib.hid hz; have HX := Lib.hid hX; have HA := Lib.hid hA; have HW := Lib.hid hwr
  clear hk0 hk1 hbelow hc0 hc1 hNw hbox hw1 hk hI hI0 hI1 hb hW hok hm hN hT hz hlen hcap hkk ew hX hA hwr
  go_enter Tryz.func35, Tryz.ntmps35
  obtain ⟨a0, a1, a2, a3, a4, a5, a6, a7, al⟩ := HC0.out _ (HB.out _ HW.out)
  go_wp2_with (fail)
  refine (HK0.out (w.alloc (.cells #[.int .u8 10, .int .u8 op, .int .i64 pl, .int .i64 nn, .string nm, .string ar, .string ex, .slice (some ⟨b, o, none⟩) 2 c] 29)) (HB.out _ HW.out) HA.out).mono ?_
  rintro e v0 h0
  have hR0 := h0
  obtain rfl := h0.1
  have hX0 := box_kept HX.out HNW.out hR0.2.2
  have hW0 := HW.out.trans hR0.2.2
  have HR0 := Lib.hid hR0; have HX0 := Lib.hid hX0; have HW0 := Lib.hid hW0; have HA0 := Lib.hid hR0.2.1
  clear h0 hR0 hX0 hW0 a0 a1 a2 a3 a4 a5 a6 a7 al
  clear HX HW HA
  have HX := HX0; have HW := HW0; have HA := HA0
  clear HX0 HW0 HA0
  obtain ⟨⟨b0, b1, b2, b3, b4, b5, b6, b7⟩, f0, f1, f2, f3, f4, f5, f6, f7⟩ := Parse.cells8' HX.out
  have bl := lt_of_block HX.out
  obtain ⟨a0, a1, a2, a3, a4, a5, a6, a7, al⟩ := HC1.out _ (HB.out _ HW.out)
  go_wp2_with (fail)
  refine (HK1.out v0 (HB.out _ HW.out) HA.out).mono ?_
  rintro e v1 h1
  have hR1 := h1
  obtain rfl := h1.1
  have hX1 := box_kept HX.out HNW.out hR1.2.2
  have hW1 := HW.out.trans hR1.2.2
  have HR1 := Lib.hid hR1; have HX1 := Lib.hid hX1; have HW1 := Lib.hid hW1; have HA1 := Lib.hid hR1.2.1
  clear h1 hR1 hX1 hW1 b0 b1 b2 b3 b4 b5 b6 b7 f0 f1 f2 f3 f4 f5 f6 f7 bl a0 a1 a2 a3 a4 a5 a6 a7 al
  clear HX HW HA
  have HX := HX1; have HW := HW1; have HA := HA1
  clear HX1 HW1 HA1
  go_wp2_with (fail)
  go_end0
  exact ⟨rfl, (by have h := HA.out; simp only [List.append_assoc, List.cons_append, List.nil_append] at h ⊢; exact h), HW.out⟩
end Show
end Go.Proofs.YtkcadkjpneoobaaGreatDoor
