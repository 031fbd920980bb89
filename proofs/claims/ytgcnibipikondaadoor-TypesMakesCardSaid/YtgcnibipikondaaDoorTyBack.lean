/- The library's slices.Backward over types: what is handed each round, and the iterator's contract. -/
import Derived.RangeFuncNested
import Derived.RangeFuncBound
import Derived.RangeFuncCalls
import Derived.RangeFuncLeaves
import Derived.Shelf.Abstract
import Derived.Shelf.RegionOpen
import Derived.WalkKit
import Derived.OwnWalkIn
import Derived.TacticsInMore
import Derived.LoopNIn
import Derived.LoopIn
import Derived.Test.YtgcnibipikondaaDoorTyOf
namespace Go.Proofs.YtgcnibipikondaaDoor
open Go.RowKit Go.Shelf
set_option linter.unusedVariables false
attribute [local go_sem] Oper.semAt_some
namespace Types

/-- What comes in a round: a place, and a type whose kids lie in the world W0. -/
structure It (W0 : World) where
  i : Nat
  h : Hd
  q : Option Addr
  l : Nat
  c : Nat
  t : Ty
  is : TyIs W0 h q l c t
def encIt {W0 : World} (x : It W0) : Array Value := #[.int .i64 (x.i : Int), .agg #[.int .u8 x.h.k, .int .i64 x.h.v, .slice x.q x.l x.c]]
/-- The last ones of n, as many as k. -/
def back {α : Type} (f : Nat → α) (n k : Nat) : List α := (List.range k).map fun j => f (n - 1 - j)
theorem back_zero {α : Type} (f : Nat → α) (n : Nat) : back f n 0 = [] := rfl
theorem back_succ {α : Type} (f : Nat → α) (n m : Nat) (h : m < n) : back f n (n - m) = back f n (n - (m + 1)) ++ [f m] := by
  have e : n - m = (n - (m + 1)) + 1 := by omega
  rw [e]
  simp only [back, List.range_succ, List.map_append, List.map_cons, List.map_nil]
  rw [show n - 1 - (n - (m + 1)) = m from by omega]
theorem back_len {α : Type} (f : Nat → α) (n k : Nat) : (back f n k).length = k := by simp [back]
/-- The row's types as they come. -/
structure RowIt (W0 : World) (b o len : Nat) (f : Nat → It W0) : Prop where
  i : ∀ k, k < len → (f k).i = k
  c0 : ∀ k, k < len → W0.cell? ⟨b, o + k * 3, none⟩ = some (.int .u8 (f k).h.k)
  c1 : ∀ k, k < len → W0.cell? ⟨b, o + k * 3 + 1, none⟩ = some (.int .i64 (f k).h.v)
  c2 : ∀ k, k < len → W0.cell? ⟨b, o + k * 3 + 2, none⟩ = some (.slice (f k).q (f k).l (f k).c)

/-- What a round keeps: all blocks below M but N. -/
structure KpN (N M : Nat) (W W' : World) : Prop where
  size : W.heap.size ≤ W'.heap.size
  block : ∀ b, b < M → b ≠ N → W'.heap[b]? = W.heap[b]?
theorem KpN.refl (N M : Nat) (W : World) : KpN N M W W := ⟨Nat.le_refl _, fun _ _ _ => rfl⟩
theorem KpN.trans {N M : Nat} {A B C : World} (h : KpN N M A B) (k : KpN N M B C) : KpN N M A C := ⟨Nat.le_trans h.size k.size, fun b hb hn => (k.block b hb hn).trans (h.block b hb hn)⟩
theorem KpN.reads {N M : Nat} {W0 W W' : World} (h : KpN N M W W') (hN : W0.heap.size = N) (hM : N ≤ M) (hr : Reads W0 W) : Reads W0 W' := fun a v hv => by
  have hb := World.block_lt_of_cell? W0 _ hv
  rw [World.cell?_of_block (h.block a.block (by omega) (by omega))]
  exact hr a v hv

set_option maxRecDepth 100000 in
set_option maxHeartbeats 2000000 in
theorem back1_in (F : Fence) (n : Nat) (h7 : F.fn 45) (hro : F.round = none) (hn : 1 ≤ n) (l Bs N M : Nat) (W0 : World) (hN : W0.heap.size = N) (hM : N ≤ M) (b o len cap : Nat) (f : Nat → It W0) (hlen : len ≤ 100000) (hF : RowIt W0 b o len f) (J Jx : List (It W0) → World → Prop)
    (hY : ∀ pre x W, J pre W → pre.length < len → YieldAt F (n - 1) Tryd.prog l (encIt x) W fun e W' =>
      (e = .returned (.bool true) ∧ J (pre ++ [x]) W' ∧ KpN N M W W') ∨ (e = .returned (.bool false) ∧ Jx (pre ++ [x]) W'))
    (W : World) (hBs : W.cell? ⟨Bs, 0, none⟩ = some (.slice (some ⟨b, o, none⟩) len cap)) (hBl : Bs < M ∧ Bs ≠ N) (hW : Reads W0 W) (h0 : J [] W) :
    CallsIn F n Tryd.prog 45 #[.func (.yield l) #[] #[], .pointer (some ⟨Bs, 0, none⟩)] W fun e W' => (∃ v, e = .returned v) ∧
      ((∃ ys, ys = back f len len ∧ J ys W') ∨ (∃ pre, True ∧ Jx pre W')) := by
  refine callsIn_of_wp Tryd.func45 rfl h7 ?_ hro
  simp only [Tryd.ntmps45, List.size_toArray, List.length_cons, List.length_nil, Nat.reduceAdd, Nat.reduceSub, Array.replicate_succ, Array.replicate_zero, List.push_toArray, List.append_toArray, List.nil_append, List.cons_append]
  gi_wp2
  gi_loopw [3] (fun i wr => ∃ m : Nat, m ≤ len ∧ i = .int .i64 ((m : Int) - 1) ∧ J (back f len (len - m)) wr ∧ KpN N M W wr)
    (fun i _ => (intOf i + 1).toNat)
  case atStart => exact ⟨len, Nat.le_refl _, rfl, by rw [Nat.sub_self]; exact h0, KpN.refl _ _ _⟩
  case round =>
    obtain ⟨m, hm, rfl, hJs, hnx⟩ := hrel
    have hbs : wr.cell? ⟨Bs, 0, none⟩ = some (.slice (some ⟨b, o, none⟩) len cap) := (World.cell?_of_block (hnx.block Bs hBl.1 hBl.2)).trans hBs
    cases m with
    | zero =>
      gi_wp2
      go_end0
      exact ⟨⟨_, rfl⟩, .inl ⟨_, rfl, by simpa using hJs⟩⟩
    | succ m =>
      have hlift := hnx.reads hN hM hW
      have c0 := hlift _ _ (hF.c0 m (by omega))
      have c1 := hlift _ _ (hF.c1 m (by omega))
      have c2 := hlift _ _ (hF.c2 m (by omega))
      have hi := hF.i m (by omega)
      obtain ⟨fn, tmps, assign, body, hy, hR⟩ := hY _ (f m) wr hJs (by rw [back_len]; omega)
      have hbk := back_succ f len m (by omega)
      unfold encIt at hy
      rw [hi] at hy
      have e1 : ((m + 1 : Nat) : Int) - 1 = (m : Int) := by omega
      rw [e1]
      gi_wp2
      refine hR.mono ?_
      rintro e W3 (⟨rfl, hJ3, hk3⟩ | ⟨rfl, hJx3⟩)
      · gi_wp2
        go_roundw
        case rel => exact ⟨m, by omega, by go_num, by rw [hbk]; exact hJ3, hnx.trans hk3⟩
        case measure => simp [intOf]
      · gi_wp2
        refine bodyPost_ret (results_none rfl _ _ _) rfl ?_
        exact ⟨⟨_, rfl⟩, .inr ⟨_, trivial, hJx3⟩⟩

set_option maxHeartbeats 1000000 in
theorem backward_walk (a : Option Addr) (len cap : Nat) (w : World) :
    Calls Tryd.prog 37 #[.slice a len cap] w fun e w' => e = .returned (.func (.func 45) #[] #[.pointer (some ⟨w.heap.size, 0, none⟩)]) ∧ w' = w.alloc (.cells #[.slice a len cap] 22) := by
  go_enter Tryd.func37, Tryd.ntmps37
  go_wp2
  go_ret
  exact ⟨rfl, rfl⟩
theorem back_stops (F : Fence) (n : Nat) (h7 : F.fn 45) (hro : F.round = none) (hn : 1 ≤ n) (Bs N M : Nat) (W0 : World) (hN : W0.heap.size = N) (hM : N ≤ M) (b o len cap : Nat) (f : Nat → It W0) (hlen : len ≤ 100000) (hF : RowIt W0 b o len f)
    (w : World) (hBs : w.cell? ⟨Bs, 0, none⟩ = some (.slice (some ⟨b, o, none⟩) len cap)) (hBl : Bs < M ∧ Bs ≠ N) (hMw : M ≤ w.heap.size) (hW : Reads W0 w) :
    SeqStopsK F n Tryd.prog 45 #[.pointer (some ⟨Bs, 0, none⟩)] encIt (KpN N M) (fun ys => ys = back f len len) (fun _ => True) len w := fun l J Jx W hb _ _ hY h0 =>
  back1_in F n h7 hro hn l Bs N M W0 hN hM b o len cap f hlen hF J Jx hY W ((hb.cell (p := ⟨Bs, 0, none⟩) (by show Bs < _; omega)).trans hBs) hBl (fun a v hv => (hb.cell (World.block_lt_of_cell? w _ (hW a v hv))).trans (hW a v hv)) h0
end Types
end Go.Proofs.YtgcnibipikondaaDoor
