/- Whether nodes are closed: the state, and the closure that turns it. (Written by wip/tools/scopecl.py.) -/
import Derived.Test.YtkcadkjpneoobaaDoorScopeF
import Derived.Test.YtkcadkjpneoobaaDoorScopeG
namespace Go.Proofs.YtkcadkjpneoobaaDoor
open Go.RowKit
set_option linter.unusedVariables false
set_option linter.unusedSimpArgs false
namespace Scope
open Term (Tm Hd TmIs ret_bool ret_i64 tget wt wts wts_cons wts_nil drop_tget tcells)
open Words (str_no str_yes)

/-- Is a node closed, where these exceptions are declared? -/
def clN (decl ns : List ByteArray) (h : Hd) : Bool := decide (freeP ns h = ⟨#[]⟩) && (decide (h.exn = ⟨#[]⟩) || hasB decl h.exn)
def clB (decl : List ByteArray) (ns : List ByteArray) (_ : Int × Int) (t : Tm) : Bool := clN decl ns t.h
def clS (decl : List ByteArray) (ns : List ByteArray) (s : Int × Int) (t : Tm) : Int × Int := if clN decl ns t.h = true then s else (t.h.pl, 4)
def ClZ (D A E : Nat) (W : World) (b : Nat) : Prop := b = D ∨ b = A ∨ b = E ∨ ∃ v, W.heap[D]? = some (.cells #[v] 50 (0, 0)) ∧ v.ownBlock = some b
structure ClI (w0 : World) (B D A E : Nat) (decl : List ByteArray) (r : Nat) (s : Int × Int) (W : World) : Prop where
  base : Below w0.heap.size w0 W
  high : B ≤ W.heap.size
  decl : ∃ v, W.heap[D]? = some (.cells #[v] 50 (0, 0)) ∧ Nm W B v decl
  at_ : W.heap[A]? = some (.cells #[.int .i64 s.1] 3 (0, 0))
  err : W.heap[E]? = some (.cells #[.int .i64 s.2] 32 (0, 0))
theorem cl_clo (w0 : World) (B D A E : Nat) (decl : List ByteArray) (hB : w0.heap.size ≤ B) (hD : B ≤ D) (hA : B ≤ A) (hE : B ≤ E) : Clo w0 B (ClZ D A E) (ClI w0 B D A E decl) where
  low := hB
  base := fun r s W h => ⟨h.base, h.high⟩
  zone := fun r s W b h hz => by
    obtain ⟨v, h1, h2⟩ := h.decl
    rcases hz with rfl | rfl | rfl | ⟨u, k1, k2⟩
    · exact ⟨hD, lt_of_block h1⟩
    · exact ⟨hA, lt_of_block h.at_⟩
    · exact ⟨hE, lt_of_block h.err⟩
    · rw [← box_val h1 k1] at k2
      exact h2.high k2
  keep := fun r s W W' v h k hv => by
    obtain ⟨u, h1, h2⟩ := h.decl
    have e1 : W'.heap[D]? = W.heap[D]? := k.block D (lt_of_block h1) (fun h => h) (fun e => (hv D e).2 (.inl rfl))
    have e2 : W'.heap[A]? = W.heap[A]? := k.block A (lt_of_block h.at_) (fun h => h) (fun e => (hv A e).2 (.inr (.inl rfl)))
    have e3 : W'.heap[E]? = W.heap[E]? := k.block E (lt_of_block h.err) (fun h => h) (fun e => (hv E e).2 (.inr (.inr (.inl rfl))))
    refine ⟨⟨⟨k.os.trans h.base.os, k.tape.trans h.base.tape, k.output.trans h.base.output, Nat.le_trans h.base.size k.size, fun b hb => (k.block b (Nat.lt_of_lt_of_le hb h.base.size) (fun h => h) (fun e => by have := (hv b e).1; omega)).trans (h.base.block b hb)⟩,
      Nat.le_trans h.high k.size, ⟨u, e1.trans h1, h2.far k fun b hb => ⟨fun h => h, fun e => (hv b e).2 (.inr (.inr (.inr ⟨u, h1, hb⟩)))⟩⟩, e2.trans h.at_, e3.trans h.err⟩, fun b hz => ?_⟩
    rcases hz with rfl | rfl | rfl | ⟨u', k1, k2⟩
    · exact .inl rfl
    · exact .inr (.inl rfl)
    · exact .inr (.inr (.inl rfl))
    · exact .inr (.inr (.inr ⟨u', e1 ▸ k1, k2⟩))
  less := fun r r' s W h hr => ⟨h.base, h.high, h.decl, h.at_, h.err⟩
theorem set1 {w : World} {N : Nat} {c v : Value} {ty : TypeId} (h : w.heap[N]? = some (.cells #[c] ty (0, 0))) : (w.setCell ⟨N, 0, none⟩ v).heap[N]? = some (.cells #[v] ty (0, 0)) := by
  simp [World.setCell, Array.getElem?_modify, h]
theorem cl_idle {w0 : World} {B D A E : Nat} {decl : List ByteArray} {hB : w0.heap.size ≤ B} {hD : B ≤ D} {hA : B ≤ A} {hE : B ≤ E} {r : Nat} {s : Int × Int} {W W' : World} (h : ClI w0 B D A E decl (r + 1) s W) (hb : Below W.heap.size W W') : AllEnd (ClZ D A E) (ClI w0 B D A E decl r) (.slice none 0 0) (true, s) W (.returned (.bool true)) W' := by
  obtain ⟨h1, h2⟩ := (cl_clo w0 B D A E decl hB hD hA hE).keep _ _ _ _ (.slice none 0 0) h (Keep.of_below hb) (fun b e => by simp [Value.ownBlock] at e)
  exact ⟨rfl, (cl_clo w0 B D A E decl hB hD hA hE).less _ _ _ _ h1 (by omega), Keep.of_below hb, fun b _ h => h2 b h⟩
theorem cl_stop {w0 : World} {B D A E : Nat} {decl : List ByteArray} {hB : w0.heap.size ≤ B} {hD : B ≤ D} {hA : B ≤ A} {hE : B ≤ E} (hDA : D ≠ A) (hDE : D ≠ E) (hAE : A ≠ E) {r : Nat} {s : Int × Int} {W W1 : World} (pl : Int) (h : ClI w0 B D A E decl (r + 1) s W) (hb : Below W.heap.size W W1) :
    AllEnd (ClZ D A E) (ClI w0 B D A E decl r) (.slice none 0 0) (false, (pl, 4)) W (.returned (.bool false)) ((W1.setCell ⟨A, 0, none⟩ (.int .i64 pl)).setCell ⟨E, 0, none⟩ (.int .i64 4)) := by
  obtain ⟨⟨g1, g2, ⟨u, g3, g4⟩, g5, g6⟩, gz⟩ := (cl_clo w0 B D A E decl hB hD hA hE).keep _ _ _ _ (.slice none 0 0) h (Keep.of_below hb) (fun b e => by simp [Value.ownBlock] at e)
  have hset : ∀ b, b ≠ A → b ≠ E → ((W1.setCell ⟨A, 0, none⟩ (.int .i64 pl)).setCell ⟨E, 0, none⟩ (.int .i64 4)).heap[b]? = W1.heap[b]? := fun b h1 h2 => (Below.heap_setCell _ _ _ _ h2).trans (Below.heap_setCell _ _ _ _ h1)
  have hsz : ((W1.setCell ⟨A, 0, none⟩ (.int .i64 pl)).setCell ⟨E, 0, none⟩ (.int .i64 4)).heap.size = W1.heap.size := by simp [World.setCell]
  have hA1 : ((W1.setCell ⟨A, 0, none⟩ (.int .i64 pl)).setCell ⟨E, 0, none⟩ (.int .i64 4)).heap[A]? = some (.cells #[.int .i64 pl] 3 (0, 0)) := by
    rw [Below.heap_setCell _ _ _ _ (show A ≠ E from hAE)]
    simp [World.setCell, Array.getElem?_modify, g5]
  have hE1 : ((W1.setCell ⟨A, 0, none⟩ (.int .i64 pl)).setCell ⟨E, 0, none⟩ (.int .i64 4)).heap[E]? = some (.cells #[.int .i64 4] 32 (0, 0)) := by
    have e : (W1.setCell ⟨A, 0, none⟩ (.int .i64 pl)).heap[E]? = some (.cells #[.int .i64 s.2] 32 (0, 0)) := (Below.heap_setCell _ _ _ _ (show E ≠ A from fun e => hAE e.symm)).trans g6
    exact set1 e
  have hD1 := (hset D hDA hDE).trans g3
  have huA := ne_ty g4 g5 (by decide)
  have huE := ne_ty g4 g6 (by decide)
  have hkW : Keep (fun b => b = A ∨ b = E) (.slice none 0 0) W1 ((W1.setCell ⟨A, 0, none⟩ (.int .i64 pl)).setCell ⟨E, 0, none⟩ (.int .i64 4)) :=
    ⟨rfl, rfl, rfl, by rw [hsz]; exact Nat.le_refl _, fun b _ hz _ => hset b (fun e => hz (.inl e)) (fun e => hz (.inr e)), fun b cur ty e => by simp [Value.ownBlock] at e⟩
  refine ⟨rfl, ⟨⟨g1.os, g1.tape, g1.output, by rw [hsz]; exact g1.size, fun b hbl => (hset b (by omega) (by omega)).trans (g1.block b hbl)⟩, by rw [hsz]; exact g2, ⟨u, hD1, g4.far hkW fun b hb => ⟨fun e => e.elim (fun e => huA (e ▸ hb)) (fun e => huE (e ▸ hb)), by simp [Value.ownBlock]⟩⟩, hA1, hE1⟩,
    (Keep.of_below hb).trans hkW (fun b _ hz => hz.elim (fun e => .inr (.inl e)) (fun e => .inr (.inr (.inl e)))) (.inl ⟨rfl, Nat.le_refl _⟩), fun b hbl hz => ?_⟩
  rcases hz with rfl | rfl | rfl | ⟨u', k1, k2⟩
  · exact .inl rfl
  · exact .inr (.inl rfl)
  · exact .inr (.inr (.inl rfl))
  · exact gz b (.inr (.inr (.inr ⟨u', (hset D hDA hDE) ▸ k1, k2⟩)))
set_option maxRecDepth 10000 in
set_option maxHeartbeats 6400000 in
theorem cl_steps (w0 : World) (B D A E : Nat) (decl : List ByteArray) (hB : w0.heap.size ≤ B) (hD : B ≤ D) (hA : B ≤ A) (hE : B ≤ E) (hDA : D ≠ A) (hDE : D ≠ E) (hAE : A ≠ E) : StepsClosed (clB decl) (clS decl) w0 B D A E (ClZ D A E) (ClI w0 B D A E decl) := by
  intro r s W t h q l c v ns hi ho hT
  obtain ⟨k, op, pl, nn, nm, ar, ex⟩ := h
  have hth := hT.head
  show Calls _ _ _ _ (AllEnd _ _ _ (clN decl ns t.h, if clN decl ns t.h = true then s else (t.h.pl, 4)) _)
  rw [hth]
  have hal : Below W.heap.size W (W.alloc (.cells #[.int .u8 k, .int .u8 op, .int .i64 pl, .int .i64 nn, .string nm, .string ar, .string ex, .slice q l c] 27)) := (Below.refl _ _).alloc (Nat.le_refl _) _
  obtain ⟨u, g1, g2⟩ := hi.decl
  have hn1 : Nm (W.alloc (.cells #[.int .u8 k, .int .u8 op, .int .i64 pl, .int .i64 nn, .string nm, .string ar, .string ex, .slice q l c] 27)) B v ns := ho.1.keep (Keep.of_below (Z := fun _ => False) hal) (fun _ _ h => h)
  have hlk := free_walk (W.alloc (.cells #[.int .u8 k, .int .u8 op, .int .i64 pl, .int .i64 nn, .string nm, .string ar, .string ex, .slice q l c] 27)) B v ns k op pl nn nm ar ex q l c hn1
  have hfb := (hal.block D (lt_of_block g1)).trans g1
  have hab := (hal.block A (lt_of_block hi.at_)).trans hi.at_
  have heb := (hal.block E (lt_of_block hi.err)).trans hi.err
  have hxb : (W.alloc (.cells #[.int .u8 k, .int .u8 op, .int .i64 pl, .int .i64 nn, .string nm, .string ar, .string ex, .slice q l c] 27)).heap[W.heap.size]? = some (.cells #[.int .u8 k, .int .u8 op, .int .i64 pl, .int .i64 nn, .string nm, .string ar, .string ex, .slice q l c] 27 (0, 0)) := heap_alloc_new W _
  have hun := g2.keep (Keep.of_below (Z := fun _ => False) hal) (fun _ _ h => h)
  have hBl := hi.high
  obtain ⟨pu, du, rfl, _⟩ := g2.slice
  have hx : ∀ W1, Below (W.alloc (.cells #[.int .u8 k, .int .u8 op, .int .i64 pl, .int .i64 nn, .string nm, .string ar, .string ex, .slice q l c] 27)).heap.size (W.alloc (.cells #[.int .u8 k, .int .u8 op, .int .i64 pl, .int .i64 nn, .string nm, .string ar, .string ex, .slice q l c] 27)) W1 → Below W.heap.size W W1 ∧ W1.heap[D]? = some (.cells #[.slice pu decl.length du] 50 (0, 0)) ∧ W1.heap[A]? = some (.cells #[.int .i64 s.1] 3 (0, 0)) ∧ W1.heap[E]? = some (.cells #[.int .i64 s.2] 32 (0, 0)) ∧ W1.heap[W.heap.size]? = some (.cells #[.int .u8 k, .int .u8 op, .int .i64 pl, .int .i64 nn, .string nm, .string ar, .string ex, .slice q l c] 27 (0, 0)) ∧ Nm W1 B (.slice pu decl.length du) decl :=
    fun W1 hb => ⟨hal.trans (hb.mono hal.size), (hb.block D (lt_of_block hfb)).trans hfb, (hb.block A (lt_of_block hab)).trans hab, (hb.block E (lt_of_block heb)).trans heb, (hb.block _ (lt_of_block hxb)).trans hxb, hun.keep (Keep.of_below (Z := fun _ => False) hb) (fun _ _ h => h)⟩
  have HLK := Lib.hid hlk; have HI := Lib.hid hi; have HX := Lib.hid hx; have HC := Lib.hid (And.intro hB (And.intro hD (And.intro hA hE))); have HN := Lib.hid (And.intro hDA (And.intro hDE hAE))
  clear hal g1 g2 hn1 hlk hfb hab heb hxb hun hi ho hT hth hBl hB hD hA hE hx
  have hAE' : ¬ A = E := hAE
  have hEA' : ¬ E = A := fun e => hAE e.symm
  generalize hy : freeP ns ⟨k, op, pl, nn, nm, ar, ex⟩ = y at *
  by_cases hye : y = ⟨#[]⟩
  · by_cases hxe : ex = ⟨#[]⟩
    · have hr : clN decl ns ⟨k, op, pl, nn, nm, ar, ex⟩ = true := by unfold clN; rw [hy, decide_eq_true hye, decide_eq_true hxe]; rfl
      rw [hr, if_pos rfl]
      subst hye hxe
      clear hr hy
      go_enter Tryd.func26, Tryd.ntmps26
      go_wp2_with (fail)
      refine HLK.out.mono ?_
      rintro e W1 ⟨rfl, hb1⟩
      obtain ⟨y1, y2, y3, y4, y5, y6⟩ := HX.out W1 hb1
      obtain ⟨⟨b0, b1, b2, b3, b4, b5, b6, b7⟩, f0, f1, f2, f3, f4, f5, f6, f7⟩ := cells8' y5
      have bl := lt_of_block y5
      have HB1 := Lib.hid y1
      clear hb1 y1 y2 y3 y4 y5 y6
      go_wp2_with (fail)
      go_ret
      exact cl_idle (hB := HC.out.1) (hD := HC.out.2.1) (hA := HC.out.2.2.1) (hE := HC.out.2.2.2) HI.out HB1.out
    · have hxi : (ex.toList == []) = false := by have := str_no hxe; simpa using this
      have hxj : ex.toList.isEmpty = false := by simpa using hxi
      cases hh : hasB decl ex
      · have hr : clN decl ns ⟨k, op, pl, nn, nm, ar, ex⟩ = false := by unfold clN; rw [decide_eq_false (show ¬ (Hd.exn ⟨k, op, pl, nn, nm, ar, ex⟩ = ⟨#[]⟩) from hxe), hh]; simp
        rw [hr, if_neg Bool.false_ne_true]
        subst hye
        clear hr hy
        go_enter Tryd.func26, Tryd.ntmps26
        go_wp2_with (fail)
        refine HLK.out.mono ?_
        rintro e W1 ⟨rfl, hb1⟩
        obtain ⟨y1, y2, y3, y4, y5, y6⟩ := HX.out W1 hb1
        obtain ⟨⟨b0, b1, b2, b3, b4, b5, b6, b7⟩, f0, f1, f2, f3, f4, f5, f6, f7⟩ := cells8' y5
        obtain ⟨p0, pf0⟩ : W1.cell? ⟨D, 0, none⟩ = some (.slice pu decl.length du) ∧ W1.frozen? ⟨D, 0, none⟩ = false := by simp [World.cell?, World.frozen?, y2]
        obtain ⟨p1, pf1⟩ : W1.cell? ⟨A, 0, none⟩ = some (.int .i64 s.1) ∧ W1.frozen? ⟨A, 0, none⟩ = false := by simp [World.cell?, World.frozen?, y3]
        obtain ⟨p2, pf2⟩ : W1.cell? ⟨E, 0, none⟩ = some (.int .i64 s.2) ∧ W1.frozen? ⟨E, 0, none⟩ = false := by simp [World.cell?, World.frozen?, y4]
        have bl := lt_of_block y5
        have l0 := lt_of_block y2
        have l1 := lt_of_block y3
        have l2 := lt_of_block y4
        have hhw := has_walk W1 B _ decl ex y6
        rw [hh] at hhw
        have HB1 := Lib.hid y1; have HHW := Lib.hid hhw
        clear hb1 y1 y2 y3 y4 y5 y6 hhw
        go_wp2_with (fail)
        refine HHW.out.mono ?_
        rintro e W2 ⟨rfl, rfl⟩
        go_wp2_with (fail)
        go_ret
        exact cl_stop (hB := HC.out.1) (hD := HC.out.2.1) (hA := HC.out.2.2.1) (hE := HC.out.2.2.2) HN.out.1 HN.out.2.1 HN.out.2.2 pl HI.out HB1.out
      · have hr : clN decl ns ⟨k, op, pl, nn, nm, ar, ex⟩ = true := by unfold clN; rw [hy, decide_eq_true hye, hh, Bool.or_true]; rfl
        rw [hr, if_pos rfl]
        subst hye
        clear hr hy
        go_enter Tryd.func26, Tryd.ntmps26
        go_wp2_with (fail)
        refine HLK.out.mono ?_
        rintro e W1 ⟨rfl, hb1⟩
        obtain ⟨y1, y2, y3, y4, y5, y6⟩ := HX.out W1 hb1
        obtain ⟨⟨b0, b1, b2, b3, b4, b5, b6, b7⟩, f0, f1, f2, f3, f4, f5, f6, f7⟩ := cells8' y5
        obtain ⟨p0, pf0⟩ : W1.cell? ⟨D, 0, none⟩ = some (.slice pu decl.length du) ∧ W1.frozen? ⟨D, 0, none⟩ = false := by simp [World.cell?, World.frozen?, y2]
        have bl := lt_of_block y5
        have l0 := lt_of_block y2
        have hhw := has_walk W1 B _ decl ex y6
        rw [hh] at hhw
        have HB1 := Lib.hid y1; have HHW := Lib.hid hhw
        clear hb1 y1 y2 y3 y4 y5 y6 hhw
        go_wp2_with (fail)
        refine HHW.out.mono ?_
        rintro e W2 ⟨rfl, rfl⟩
        go_wp2_with (fail)
        go_ret
        exact cl_idle (hB := HC.out.1) (hD := HC.out.2.1) (hA := HC.out.2.2.1) (hE := HC.out.2.2.2) HI.out HB1.out
  · have hyi : (y.toList == []) = false := by have := str_no hye; simpa using this
    have hyj : y.toList.isEmpty = false := by simpa using hyi
    have hr : clN decl ns ⟨k, op, pl, nn, nm, ar, ex⟩ = false := by unfold clN; rw [hy, decide_eq_false hye, Bool.false_and]
    rw [hr, if_neg Bool.false_ne_true]
    clear hr hy
    go_enter Tryd.func26, Tryd.ntmps26
    go_wp2_with (fail)
    refine HLK.out.mono ?_
    rintro e W1 ⟨rfl, hb1⟩
    obtain ⟨y1, y2, y3, y4, y5, y6⟩ := HX.out W1 hb1
    obtain ⟨⟨b0, b1, b2, b3, b4, b5, b6, b7⟩, f0, f1, f2, f3, f4, f5, f6, f7⟩ := cells8' y5
    obtain ⟨p1, pf1⟩ : W1.cell? ⟨A, 0, none⟩ = some (.int .i64 s.1) ∧ W1.frozen? ⟨A, 0, none⟩ = false := by simp [World.cell?, World.frozen?, y3]
    obtain ⟨p2, pf2⟩ : W1.cell? ⟨E, 0, none⟩ = some (.int .i64 s.2) ∧ W1.frozen? ⟨E, 0, none⟩ = false := by simp [World.cell?, World.frozen?, y4]
    have bl := lt_of_block y5
    have l1 := lt_of_block y3
    have l2 := lt_of_block y4
    have HB1 := Lib.hid y1
    clear hb1 y1 y2 y3 y4 y5 y6
    go_wp2_with (fail)
    go_ret
    exact cl_stop (hB := HC.out.1) (hD := HC.out.2.1) (hA := HC.out.2.2.1) (hE := HC.out.2.2.2) HN.out.1 HN.out.2.1 HN.out.2.2 pl HI.out HB1.out
end Scope
end Go.Proofs.YtkcadkjpneoobaaDoor
