/- What is met at the nodes: the state, and the closure that turns it. (Written by wip/tools/scopemet.py.) -/
import Derived.Test.YtkcadkjpneoobaaDoorScopeE
namespace Go.Proofs.YtkcadkjpneoobaaDoor
open Go.RowKit
set_option linter.unusedVariables false
set_option linter.unusedSimpArgs false
namespace Scope
open Term (Tm Hd TmIs ret_bool ret_i64 tget wt wts wts_cons wts_nil drop_tget tcells)
open Words (str_no str_yes)

theorem ne_ty {w : World} {B : Nat} {v : Value} {ns : List ByteArray} {b : Nat} {cs : Array Value} {fr : Nat × Nat} {ty : TypeId} (h : Nm w B v ns) (hb : w.heap[b]? = some (.cells cs ty fr)) (ht : ty ≠ 9) : v.ownBlock ≠ some b := by
  intro e
  rcases h.2 with ⟨rfl, _⟩ | ⟨g, cap, cur, rfl, _, hg, _⟩
  · simp [Value.ownBlock] at e
  · have : g = b := by simpa [Value.ownBlock] using e
    subst this
    rw [hb] at hg
    injection hg with hg
    injection hg with h1 h2 h3
    exact ht h2
/-- The blocks of what was found: its variable's, that of the look, and its row's. -/
def MetZ (K F : Nat) (W : World) (b : Nat) : Prop := b = K ∨ b = F ∨ ∃ v, W.heap[F]? = some (.cells #[v] 50 (0, 0)) ∧ v.ownBlock = some b
/-- What was found, in memory. -/
structure MetI (w0 : World) (B K F : Nat) (look : Value) (r : Nat) (ns : List ByteArray) (W : World) : Prop where
  base : Below w0.heap.size w0 W
  high : B ≤ W.heap.size
  look : W.heap[K]? = some (.cells #[look] 60 (0, 0))
  found : ∃ v, W.heap[F]? = some (.cells #[v] 50 (0, 0)) ∧ Nm W B v ns
  many : ns.length + r ≤ 90000
theorem box_val {W : World} {F : Nat} {u v : Value} {t : TypeId} (h : W.heap[F]? = some (.cells #[u] t (0, 0))) (k : W.heap[F]? = some (.cells #[v] t (0, 0))) : u = v := by
  rw [h] at k
  injection k with k
  injection k with k1
  simpa using k1
theorem met_clo (w0 : World) (B K F : Nat) (look : Value) (hB : w0.heap.size ≤ B) (hK : B ≤ K) (hF : B ≤ F) : Clo w0 B (MetZ K F) (MetI w0 B K F look) where
  low := hB
  base := fun r s W h => ⟨h.base, h.high⟩
  zone := fun r s W b h hz => by
    obtain ⟨v, h1, h2⟩ := h.found
    rcases hz with rfl | rfl | ⟨u, k1, k2⟩
    · exact ⟨hK, lt_of_block h.look⟩
    · exact ⟨hF, lt_of_block h1⟩
    · rw [← box_val h1 k1] at k2
      exact h2.high k2
  keep := fun r s W W' v h k hv => by
    obtain ⟨u, h1, h2⟩ := h.found
    have e1 : W'.heap[K]? = W.heap[K]? := k.block K (lt_of_block h.look) (fun h => h) (fun e => (hv K e).2 (.inl rfl))
    have e2 : W'.heap[F]? = W.heap[F]? := k.block F (lt_of_block h1) (fun h => h) (fun e => (hv F e).2 (.inr (.inl rfl)))
    refine ⟨⟨⟨k.os.trans h.base.os, k.tape.trans h.base.tape, k.output.trans h.base.output, Nat.le_trans h.base.size k.size, fun b hb => (k.block b (Nat.lt_of_lt_of_le hb h.base.size) (fun h => h) (fun e => by have := (hv b e).1; omega)).trans (h.base.block b hb)⟩,
      Nat.le_trans h.high k.size, e1.trans h.look, ⟨u, e2.trans h1, h2.far k fun b hb => ⟨fun h => h, fun e => (hv b e).2 (.inr (.inr ⟨u, h1, hb⟩))⟩⟩, h.many⟩, fun b hz => ?_⟩
    rcases hz with rfl | rfl | ⟨u', k1, k2⟩
    · exact .inl rfl
    · exact .inr (.inl rfl)
    · exact .inr (.inr ⟨u', e2 ▸ k1, k2⟩)
  less := fun r r' s W h hr => ⟨h.base, h.high, h.look, h.found, by have := h.many; omega⟩
/-- What is found at a node. -/
def putS (x : ByteArray) (s : List ByteArray) : List ByteArray := if x ≠ ⟨#[]⟩ ∧ hasB s x = false then s ++ [x] else s
theorem putS_len (x : ByteArray) (s : List ByteArray) : (putS x s).length ≤ s.length + 1 := by unfold putS; split <;> simp
def metS (look : List ByteArray → Hd → ByteArray) (ns : List ByteArray) (s : List ByteArray) (t : Tm) : List ByteArray := putS (look ns t.h) s
/-- The end of the closure, where nothing is written. -/
theorem met_idle {w0 : World} {B K F : Nat} {look : Value} {hB : w0.heap.size ≤ B} {hK : B ≤ K} {hF : B ≤ F} {r : Nat} {s : List ByteArray} {W W' : World} (h : MetI w0 B K F look (r + 1) s W) (hb : Below W.heap.size W W') : AllEnd (MetZ K F) (MetI w0 B K F look r) (.slice none 0 0) (true, s) W (.returned (.bool true)) W' := by
  obtain ⟨h1, h2⟩ := (met_clo w0 B K F look hB hK hF).keep _ _ _ _ (.slice none 0 0) h (Keep.of_below hb) (fun b e => by simp [Value.ownBlock] at e)
  exact ⟨rfl, (met_clo w0 B K F look hB hK hF).less _ _ _ _ h1 (by omega), Keep.of_below hb, fun b _ h => h2 b h⟩
/-- The end of the closure, where a text is found. -/
theorem met_put {w0 : World} {B K F : Nat} {look : Value} {hB : w0.heap.size ≤ B} {hK : B ≤ K} {hF : B ≤ F} (hKF : K ≠ F) {r : Nat} {s : List ByteArray} {x : ByteArray} {W W1 W2 : World} {u v : Value} (h : MetI w0 B K F look (r + 1) s W) (hb : Below W.heap.size W W1) (hu : W1.heap[F]? = some (.cells #[u] 50 (0, 0)))
    (hn : Nm W2 B v (s ++ [x])) (hk : Keep (fun _ => False) u W1 W2) (hv : (v.ownBlock = u.ownBlock ∧ lenV u ≤ lenV v) ∨ ∀ b, v.ownBlock = some b → W1.heap.size ≤ b) :
    AllEnd (MetZ K F) (MetI w0 B K F look r) (.slice none 0 0) (true, s ++ [x]) W (.returned (.bool true)) (W2.setCell ⟨F, 0, none⟩ v) := by
  obtain ⟨u0, g1, g2⟩ := h.found
  have hFl := lt_of_block g1
  have hu0 : u = u0 := box_val hu ((hb.block F hFl).trans g1)
  subst hu0
  have gn1 : Nm W1 B u s := g2.keep (Keep.of_below (Z := fun _ => False) hb) (fun _ _ h => h)
  have huF := ne_ty gn1 hu (by decide)
  have hl1 := (hb.block K (lt_of_block h.look)).trans h.look
  have huK := ne_ty gn1 hl1 (by decide)
  have e2 : W2.heap[F]? = some (.cells #[u] 50 (0, 0)) := (hk.block F (lt_of_block hu) (fun h => h) huF).trans hu
  have ek : W2.heap[K]? = some (.cells #[look] 60 (0, 0)) := (hk.block K (lt_of_block hl1) (fun h => h) huK).trans hl1
  have hvF := ne_ty hn e2 (by decide)
  have hset : ∀ b, b ≠ F → (W2.setCell ⟨F, 0, none⟩ v).heap[b]? = W2.heap[b]? := fun b hb => Below.heap_setCell _ _ _ _ hb
  have hF2 : (W2.setCell ⟨F, 0, none⟩ v).heap[F]? = some (.cells #[v] 50 (0, 0)) := by
    simp [World.setCell, Array.getElem?_modify, e2]
  have hW : ∀ b, b < W.heap.size → b ≠ F → u.ownBlock ≠ some b → (W2.setCell ⟨F, 0, none⟩ v).heap[b]? = W.heap[b]? := fun b hbl hbf hbu =>
    (hset b hbf).trans ((hk.block b (Nat.lt_of_lt_of_le hbl hb.size) (fun h => h) hbu).trans (hb.block b hbl))
  have hsz : (W2.setCell ⟨F, 0, none⟩ v).heap.size = W2.heap.size := by simp [World.setCell]
  refine ⟨rfl, ⟨⟨(hk.os.trans hb.os).trans h.base.os, (hk.tape.trans hb.tape).trans h.base.tape, (hk.output.trans hb.output).trans h.base.output, by rw [hsz]; exact Nat.le_trans (Nat.le_trans h.base.size hb.size) hk.size, fun b hbl => ?_⟩, ?_, ?_, ⟨v, hF2, ?_⟩, ?_⟩, ⟨hk.os.trans hb.os, hk.tape.trans hb.tape, hk.output.trans hb.output, by rw [hsz]; exact Nat.le_trans hb.size hk.size, fun b hbl hz _ => hW b hbl (fun e => hz (.inr (.inl e))) (fun e => hz (.inr (.inr ⟨u, g1, e⟩))), fun b cur ty e => by simp [Value.ownBlock] at e⟩, fun b hbl hz => ?_⟩
  · have hbs := h.base.size
    exact (hW b (by omega) (by omega) (fun e => by have := (gn1.high e).1; omega)).trans (h.base.block b hbl)
  · rw [hsz]; exact Nat.le_trans (Nat.le_trans h.high hb.size) hk.size
  · exact (hset K hKF).trans ek
  · exact hn.far (u := .slice none 0 0) (Z := fun b => b = F) ⟨rfl, rfl, rfl, by rw [hsz]; exact Nat.le_refl _, fun b _ hz _ => hset b hz, fun b cur ty e => by simp [Value.ownBlock] at e⟩ (fun b hb => ⟨fun e => hvF (e ▸ hb), by simp [Value.ownBlock]⟩)
  · have := h.many
    rw [List.length_append, List.length_singleton]
    omega
  · rcases hz with rfl | rfl | ⟨u', k1, k2⟩
    · exact .inl rfl
    · exact .inr (.inl rfl)
    · rw [box_val k1 hF2] at k2
      rcases hv with hv | hv
      · exact .inr (.inr ⟨u, g1, hv.1.symm.trans k2⟩)
      · have := hv b k2
        have := hb.size
        omega

set_option maxRecDepth 10000 in
set_option maxHeartbeats 6400000 in
theorem metFree_steps (w0 : World) (B K F : Nat) (hB : w0.heap.size ≤ B) (hK : B ≤ K) (hF : B ≤ F) (hKF : K ≠ F) : StepsMet (fun _ _ _ => true) (metS freeP) w0 B K F (MetZ K F) (MetI w0 B K F (.func (.func 27) #[] #[])) := by
  intro r s W t h q l c v ns hi ho hT

  obtain ⟨k, op, pl, nn, nm, ar, ex⟩ := h
  have hth := hT.head
  show Calls _ _ _ _ (AllEnd _ _ _ (true, putS (freeP ns t.h) s) _)
  rw [hth]
  have hal : Below W.heap.size W (W.alloc (.cells #[.int .u8 k, .int .u8 op, .int .i64 pl, .int .i64 nn, .string nm, .string ar, .string ex, .slice q l c] 27)) := (Below.refl _ _).alloc (Nat.le_refl _) _
  obtain ⟨u, g1, g2⟩ := hi.found
  have hn1 : Nm (W.alloc (.cells #[.int .u8 k, .int .u8 op, .int .i64 pl, .int .i64 nn, .string nm, .string ar, .string ex, .slice q l c] 27)) B v ns := ho.1.keep (Keep.of_below (Z := fun _ => False) hal) (fun _ _ h => h)
  have hlk := free_walk (W.alloc (.cells #[.int .u8 k, .int .u8 op, .int .i64 pl, .int .i64 nn, .string nm, .string ar, .string ex, .slice q l c] 27)) B v ns k op pl nn nm ar ex q l c hn1
  have hkb := (hal.block K (lt_of_block hi.look)).trans hi.look
  have hfb := (hal.block F (lt_of_block g1)).trans g1
  have hun := g2.keep (Keep.of_below (Z := fun _ => False) hal) (fun _ _ h => h)
  have hsm := hi.many
  have hBl := hi.high
  obtain ⟨pu, du, rfl, _⟩ := g2.slice
  have HLK := Lib.hid hlk; have HI := Lib.hid hi; have HAL := Lib.hid hal; have HFB := Lib.hid hfb; have HUN := Lib.hid hun; have HB := Lib.hid (And.intro hsm hBl); have HC := Lib.hid (And.intro hB (And.intro hK (And.intro hF hKF)))
  obtain ⟨k0, kf⟩ : (W.alloc (.cells #[.int .u8 k, .int .u8 op, .int .i64 pl, .int .i64 nn, .string nm, .string ar, .string ex, .slice q l c] 27)).cell? ⟨K, 0, none⟩ = some (.func (.func 27) #[] #[]) ∧ (W.alloc (.cells #[.int .u8 k, .int .u8 op, .int .i64 pl, .int .i64 nn, .string nm, .string ar, .string ex, .slice q l c] 27)).frozen? ⟨K, 0, none⟩ = false := by simp [World.cell?, World.frozen?, hkb]
  have kl := lt_of_block hkb
  clear hal g1 g2 hn1 hlk hkb hfb hun hi ho hT hth hsm hBl hB hK hF hKF
  generalize hx : freeP ns ⟨k, op, pl, nn, nm, ar, ex⟩ = y at *
  clear hx
  by_cases hy : y = ⟨#[]⟩
  · have hr : putS y s = s := if_neg (fun h => h.1 hy)
    rw [hr]
    subst hy
    clear hr
    go_enter Tryd.func41, Tryd.ntmps41
    go_wp2_with (fail)
    refine HLK.out.mono ?_
    rintro e W1 ⟨rfl, hb1⟩
    have HB1 := Lib.hid (HAL.out.trans (hb1.mono HAL.out.size))
    clear hb1 k0 kf kl
    go_wp2_with (fail)
    go_ret
    exact met_idle (hB := HC.out.1) (hK := HC.out.2.1) (hF := HC.out.2.2.1) HI.out HB1.out
  · have hyn : (y.toList == []) = false := by have := str_no hy; simpa using this
    have hyn' : (y.toList != []) = true := by rw [bne, hyn]; rfl
    cases hh : hasB s y
    · have hr : putS y s = s ++ [y] := if_pos ⟨hy, hh⟩
      rw [hr]
      clear hr
      go_enter Tryd.func41, Tryd.ntmps41
      go_wp2_with (fail)
      refine HLK.out.mono ?_
      rintro e W1 ⟨rfl, hb1⟩
      have hfb := (hb1.block F (lt_of_block HFB.out)).trans HFB.out
      have HB1 := Lib.hid (HAL.out.trans (hb1.mono HAL.out.size))
      have HUN1 := Lib.hid (HUN.out.keep (Keep.of_below (Z := fun _ => False) hb1) (fun _ _ h => h))
      have HF1 := Lib.hid hfb
      obtain ⟨p0, pf⟩ : W1.cell? ⟨F, 0, none⟩ = some (.slice pu s.length du) ∧ W1.frozen? ⟨F, 0, none⟩ = false := by simp [World.cell?, World.frozen?, hfb]
      have fl := lt_of_block hfb
      have hhw := has_walk W1 B _ s y HUN1.out
      rw [hh] at hhw
      have HHW := Lib.hid hhw
      clear hb1 k0 kf kl hfb hhw
      go_wp2_with (fail)
      refine HHW.out.mono ?_
      rintro e W2 ⟨rfl, rfl⟩
      have hww := fun t => with_one W1 B _ s y t HUN1.out (by have := HB.out.1; omega) (Nat.le_trans HB.out.2 HB1.out.size)
      have HWW := Lib.hid hww
      clear hww
      go_wp2_with (fail)
      refine (HWW.out _).mono ?_
      rintro e W3 ⟨v', rfl, hn3, hk3, hv3⟩
      have huF := ne_ty HUN1.out HF1.out (by decide)
      have hf3 := (hk3.block F (lt_of_block HF1.out) (fun h => h) huF).trans HF1.out
      have hfin := met_put (hB := HC.out.1) (hK := HC.out.2.1) (hF := HC.out.2.2.1) HC.out.2.2.2 HI.out HB1.out HF1.out hn3 hk3 hv3
      obtain ⟨q3, d3, e3, _⟩ := hn3.slice
      rw [List.length_append, List.length_singleton] at e3
      subst e3
      obtain ⟨p3, pf3⟩ : W3.cell? ⟨F, 0, none⟩ = some (.slice pu s.length du) ∧ W3.frozen? ⟨F, 0, none⟩ = false := by simp [World.cell?, World.frozen?, hf3]
      have fl3 := lt_of_block hf3
      have HFI := Lib.hid hfin
      clear hn3 hk3 hv3 huF hf3 hfin p0 pf fl
      go_wp2_with (fail)
      go_ret
      exact HFI.out
    · have hr : putS y s = s := if_neg (fun h => by have := h.2; rw [hh] at this; cases this)
      rw [hr]
      clear hr
      go_enter Tryd.func41, Tryd.ntmps41
      go_wp2_with (fail)
      refine HLK.out.mono ?_
      rintro e W1 ⟨rfl, hb1⟩
      have hfb := (hb1.block F (lt_of_block HFB.out)).trans HFB.out
      have HB1 := Lib.hid (HAL.out.trans (hb1.mono HAL.out.size))
      have HUN1 := Lib.hid (HUN.out.keep (Keep.of_below (Z := fun _ => False) hb1) (fun _ _ h => h))
      obtain ⟨p0, pf⟩ : W1.cell? ⟨F, 0, none⟩ = some (.slice pu s.length du) ∧ W1.frozen? ⟨F, 0, none⟩ = false := by simp [World.cell?, World.frozen?, hfb]
      have fl := lt_of_block hfb
      have hhw := has_walk W1 B _ s y HUN1.out
      rw [hh] at hhw
      have HHW := Lib.hid hhw
      clear hb1 k0 kf kl hfb hhw
      go_wp2_with (fail)
      refine HHW.out.mono ?_
      rintro e W2 ⟨rfl, rfl⟩
      go_wp2_with (fail)
      go_ret
      exact met_idle (hB := HC.out.1) (hK := HC.out.2.1) (hF := HC.out.2.2.1) HI.out HB1.out

set_option maxRecDepth 10000 in
set_option maxHeartbeats 6400000 in
theorem metExn_steps (w0 : World) (B K F : Nat) (hB : w0.heap.size ≤ B) (hK : B ≤ K) (hF : B ≤ F) (hKF : K ≠ F) : StepsMet (fun _ _ _ => true) (metS (fun (_ : List ByteArray) (h : Hd) => h.exn)) w0 B K F (MetZ K F) (MetI w0 B K F (.func (.func 32) #[] #[])) := by
  intro r s W t h q l c v ns hi ho hT

  obtain ⟨k, op, pl, nn, nm, ar, y⟩ := h
  have hth := hT.head
  show Calls _ _ _ _ (AllEnd _ _ _ (true, putS ((fun (_ : List ByteArray) (h : Hd) => h.exn) ns t.h) s) _)
  rw [hth]
  have hal : Below W.heap.size W (W.alloc (.cells #[.int .u8 k, .int .u8 op, .int .i64 pl, .int .i64 nn, .string nm, .string ar, .string y, .slice q l c] 27)) := (Below.refl _ _).alloc (Nat.le_refl _) _
  obtain ⟨u, g1, g2⟩ := hi.found
  have hn1 : Nm (W.alloc (.cells #[.int .u8 k, .int .u8 op, .int .i64 pl, .int .i64 nn, .string nm, .string ar, .string y, .slice q l c] 27)) B v ns := ho.1.keep (Keep.of_below (Z := fun _ => False) hal) (fun _ _ h => h)
  have hlk := exn_walk (W.alloc (.cells #[.int .u8 k, .int .u8 op, .int .i64 pl, .int .i64 nn, .string nm, .string ar, .string y, .slice q l c] 27)) v k op pl nn nm ar y q l c
  have hkb := (hal.block K (lt_of_block hi.look)).trans hi.look
  have hfb := (hal.block F (lt_of_block g1)).trans g1
  have hun := g2.keep (Keep.of_below (Z := fun _ => False) hal) (fun _ _ h => h)
  have hsm := hi.many
  have hBl := hi.high
  obtain ⟨pu, du, rfl, _⟩ := g2.slice
  have HLK := Lib.hid hlk; have HI := Lib.hid hi; have HAL := Lib.hid hal; have HFB := Lib.hid hfb; have HUN := Lib.hid hun; have HB := Lib.hid (And.intro hsm hBl); have HC := Lib.hid (And.intro hB (And.intro hK (And.intro hF hKF)))
  obtain ⟨k0, kf⟩ : (W.alloc (.cells #[.int .u8 k, .int .u8 op, .int .i64 pl, .int .i64 nn, .string nm, .string ar, .string y, .slice q l c] 27)).cell? ⟨K, 0, none⟩ = some (.func (.func 32) #[] #[]) ∧ (W.alloc (.cells #[.int .u8 k, .int .u8 op, .int .i64 pl, .int .i64 nn, .string nm, .string ar, .string y, .slice q l c] 27)).frozen? ⟨K, 0, none⟩ = false := by simp [World.cell?, World.frozen?, hkb]
  have kl := lt_of_block hkb
  clear hal g1 g2 hn1 hlk hkb hfb hun hi ho hT hth hsm hBl hB hK hF hKF
  show Calls _ _ _ _ (AllEnd _ _ _ (true, putS y s) _)
  by_cases hy : y = ⟨#[]⟩
  · have hr : putS y s = s := if_neg (fun h => h.1 hy)
    rw [hr]
    subst hy
    clear hr
    go_enter Tryd.func41, Tryd.ntmps41
    go_wp2_with (fail)
    refine HLK.out.mono ?_
    rintro e W1 ⟨rfl, hb1⟩
    have HB1 := Lib.hid (HAL.out.trans (hb1.mono HAL.out.size))
    clear hb1 k0 kf kl
    go_wp2_with (fail)
    go_ret
    exact met_idle (hB := HC.out.1) (hK := HC.out.2.1) (hF := HC.out.2.2.1) HI.out HB1.out
  · have hyn : (y.toList == []) = false := by have := str_no hy; simpa using this
    have hyn' : (y.toList != []) = true := by rw [bne, hyn]; rfl
    cases hh : hasB s y
    · have hr : putS y s = s ++ [y] := if_pos ⟨hy, hh⟩
      rw [hr]
      clear hr
      go_enter Tryd.func41, Tryd.ntmps41
      go_wp2_with (fail)
      refine HLK.out.mono ?_
      rintro e W1 ⟨rfl, hb1⟩
      have hfb := (hb1.block F (lt_of_block HFB.out)).trans HFB.out
      have HB1 := Lib.hid (HAL.out.trans (hb1.mono HAL.out.size))
      have HUN1 := Lib.hid (HUN.out.keep (Keep.of_below (Z := fun _ => False) hb1) (fun _ _ h => h))
      have HF1 := Lib.hid hfb
      obtain ⟨p0, pf⟩ : W1.cell? ⟨F, 0, none⟩ = some (.slice pu s.length du) ∧ W1.frozen? ⟨F, 0, none⟩ = false := by simp [World.cell?, World.frozen?, hfb]
      have fl := lt_of_block hfb
      have hhw := has_walk W1 B _ s y HUN1.out
      rw [hh] at hhw
      have HHW := Lib.hid hhw
      clear hb1 k0 kf kl hfb hhw
      go_wp2_with (fail)
      refine HHW.out.mono ?_
      rintro e W2 ⟨rfl, rfl⟩
      have hww := fun t => with_one W1 B _ s y t HUN1.out (by have := HB.out.1; omega) (Nat.le_trans HB.out.2 HB1.out.size)
      have HWW := Lib.hid hww
      clear hww
      go_wp2_with (fail)
      refine (HWW.out _).mono ?_
      rintro e W3 ⟨v', rfl, hn3, hk3, hv3⟩
      have huF := ne_ty HUN1.out HF1.out (by decide)
      have hf3 := (hk3.block F (lt_of_block HF1.out) (fun h => h) huF).trans HF1.out
      have hfin := met_put (hB := HC.out.1) (hK := HC.out.2.1) (hF := HC.out.2.2.1) HC.out.2.2.2 HI.out HB1.out HF1.out hn3 hk3 hv3
      obtain ⟨q3, d3, e3, _⟩ := hn3.slice
      rw [List.length_append, List.length_singleton] at e3
      subst e3
      obtain ⟨p3, pf3⟩ : W3.cell? ⟨F, 0, none⟩ = some (.slice pu s.length du) ∧ W3.frozen? ⟨F, 0, none⟩ = false := by simp [World.cell?, World.frozen?, hf3]
      have fl3 := lt_of_block hf3
      have HFI := Lib.hid hfin
      clear hn3 hk3 hv3 huF hf3 hfin p0 pf fl
      go_wp2_with (fail)
      go_ret
      exact HFI.out
    · have hr : putS y s = s := if_neg (fun h => by have := h.2; rw [hh] at this; cases this)
      rw [hr]
      clear hr
      go_enter Tryd.func41, Tryd.ntmps41
      go_wp2_with (fail)
      refine HLK.out.mono ?_
      rintro e W1 ⟨rfl, hb1⟩
      have hfb := (hb1.block F (lt_of_block HFB.out)).trans HFB.out
      have HB1 := Lib.hid (HAL.out.trans (hb1.mono HAL.out.size))
      have HUN1 := Lib.hid (HUN.out.keep (Keep.of_below (Z := fun _ => False) hb1) (fun _ _ h => h))
      obtain ⟨p0, pf⟩ : W1.cell? ⟨F, 0, none⟩ = some (.slice pu s.length du) ∧ W1.frozen? ⟨F, 0, none⟩ = false := by simp [World.cell?, World.frozen?, hfb]
      have fl := lt_of_block hfb
      have hhw := has_walk W1 B _ s y HUN1.out
      rw [hh] at hhw
      have HHW := Lib.hid hhw
      clear hb1 k0 kf kl hfb hhw
      go_wp2_with (fail)
      refine HHW.out.mono ?_
      rintro e W2 ⟨rfl, rfl⟩
      go_wp2_with (fail)
      go_ret
      exact met_idle (hB := HC.out.1) (hK := HC.out.2.1) (hF := HC.out.2.2.1) HI.out HB1.out
end Scope
end Go.Proofs.YtkcadkjpneoobaaDoor
