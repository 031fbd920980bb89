/- The program's way through all nodes, whatever its closure does. -/
import Derived.Test.YtpedmaomogigmaaDoorTermDepth
namespace Go.Proofs.YtpedmaomogigmaaDoor
open Go.RowKit
set_option linter.unusedVariables false
namespace Term

/-- The blocks that a closure over block N may write: N, and rows of bytes behind it. -/
def Owns (N : Nat) (W : World) (b : Nat) : Prop := b = N ∨ (N < b ∧ ∃ cur, W.heap[b]? = some (.cells cur 5 (0, 0)))
theorem Owns.low {N : Nat} {W : World} {b : Nat} (h : Owns N W b) : N ≤ b := by rcases h with h | h <;> omega
/-- All other blocks stay. -/
structure Stays (N : Nat) (w w' : World) : Prop where
  os : w'.os = w.os
  tape : w'.tape = w.tape
  output : w'.output = w.output
  size : w.heap.size ≤ w'.heap.size
  block : ∀ b, b < w.heap.size → ¬ Owns N w b → w'.heap[b]? = w.heap[b]?
theorem Stays.refl (N : Nat) (w : World) : Stays N w w := ⟨rfl, rfl, rfl, Nat.le_refl _, fun _ _ _ => rfl⟩
theorem owns_back {N : Nat} {w w' : World} {b : Nat} (h : w'.heap[b]? = w.heap[b]?) (ho : Owns N w' b) : Owns N w b := by
  unfold Owns at *
  rw [h] at ho
  exact ho
theorem Stays.trans {N : Nat} {a b c : World} (h : Stays N a b) (k : Stays N b c) : Stays N a c :=
  ⟨k.os.trans h.os, k.tape.trans h.tape, k.output.trans h.output, Nat.le_trans h.size k.size, fun i hi hn => by
    have h1 := h.block i hi hn
    exact (k.block i (Nat.lt_of_lt_of_le hi h.size) (fun ho => hn (owns_back h1 ho))).trans h1⟩
theorem Stays.cell {N : Nat} {w w' : World} (h : Stays N w w') {p : Addr} (hp : p.block < w.heap.size) (ho : ¬ Owns N w p.block) : w'.cell? p = w.cell? p := World.cell?_of_block (h.block p.block hp ho)
theorem Stays.of_below {N : Nat} {w w' : World} (hb : Below w.heap.size w w') : Stays N w w' :=
  ⟨hb.os, hb.tape, hb.output, hb.size, fun i hi _ => hb.block i hi⟩
theorem Stays.alloc {N : Nat} {a w : World} (h : Stays N a w) (o : Obj) : Stays N a (w.alloc o) :=
  h.trans (Stays.of_below ((Below.refl _ _).alloc (Nat.le_refl _) o))
theorem Stays.drew {N : Nat} {a w : World} (h : Stays N a w) : Stays N a w.drew := ⟨h.os, h.tape, h.output, h.size, h.block⟩
/-- A store into N. -/
theorem Stays.set {N : Nat} {a w : World} (h : Stays N a w) (u : Value) : Stays N a (w.setCell ⟨N, 0, none⟩ u) :=
  h.trans ⟨rfl, rfl, rfl, by simp [World.setCell], fun i hi hn => Below.heap_setCell _ _ _ _ (fun e => hn (.inl e))⟩
theorem Stays.below {N B : Nat} {W w' : World} (hs : Stays N W w') (hB : B ≤ N) (hW : B ≤ W.heap.size) : Below B W w' :=
  ⟨hs.os, hs.tape, hs.output, hs.size, fun i hi => hs.block i (by omega) (fun h => by have := h.low; omega)⟩

/-- What can be read in the one world reads so in the other. -/
def Reads (w0 W : World) : Prop := ∀ a v, w0.cell? a = some v → W.cell? a = some v
theorem Reads.of_below {w0 W : World} (h : Below w0.heap.size w0 W) : Reads w0 W := fun a v hv => (h.cell (World.block_lt_of_cell? w0 _ hv)).trans hv
theorem Reads.trans {a b c : World} (h : Reads a b) (k : Reads b c) : Reads a c := fun x v hv => k x v (h x v hv)
/-- What is asked of a state's reading in memory. -/
structure Goes {σ : Type} (w0 : World) (N : Nat) (I : Nat → σ → World → Prop) : Prop where
  base : ∀ r s W, I r s W → Reads w0 W
  has : ∀ r s W, I r s W → N < W.heap.size
  keep : ∀ r s W W', I r s W → Below W.heap.size W W' → I r s W'
  less : ∀ r r' s W, I r s W → r' ≤ r → I r' s W

mutual
/-- All nodes, as far as they hold, each ahead of its kids'. -/
def foT {σ : Type} (B : σ → Tm → Bool) (S : σ → Tm → σ) : Tm → σ → Bool × σ
  | .node h l, s => if B s (.node h l) = true then foK B S l (S s (.node h l)) else (false, S s (.node h l))
def foK {σ : Type} (B : σ → Tm → Bool) (S : σ → Tm → σ) : List Tm → σ → Bool × σ
  | [], s => (true, s)
  | t :: ts, s => if (foT B S t s).1 = true then foK B S ts (foT B S t s).2 else (false, (foT B S t s).2)
end
section
variable {σ : Type} (B : σ → Tm → Bool) (S : σ → Tm → σ)
theorem foT_eq (t : Tm) (s : σ) : foT B S t s = if B s t = true then foK B S t.ks (S s t) else (false, S s t) := by cases t; unfold foT; rfl
theorem foK_nil (s : σ) : foK B S [] s = (true, s) := by unfold foK; rfl
theorem foK_cons (t : Tm) (ts : List Tm) (s : σ) : foK B S (t :: ts) s = if (foT B S t s).1 = true then foK B S ts (foT B S t s).2 else (false, (foT B S t s).2) := by conv => lhs; unfold foK
theorem foK_no {ts : List Tm} {j : Nat} {u : σ} (hj : j < ts.length) (h : B u (tget ts j) = false) : foK B S (ts.drop j) u = (false, S u (tget ts j)) := by
  rw [drop_tget ts j hj, foK_cons, foT_eq]
  simp [h]
theorem foK_kno {ts : List Tm} {j : Nat} {u : σ} (hj : j < ts.length) (h : B u (tget ts j) = true) (hk : (foK B S (tget ts j).ks (S u (tget ts j))).1 = false) : foK B S (ts.drop j) u = (false, (foK B S (tget ts j).ks (S u (tget ts j))).2) := by
  rw [drop_tget ts j hj, foK_cons, foT_eq, if_pos h, if_neg (by rw [hk]; exact Bool.false_ne_true)]
theorem foK_yes {ts : List Tm} {j : Nat} {u : σ} (hj : j < ts.length) (h : B u (tget ts j) = true) (hk : (foK B S (tget ts j).ks (S u (tget ts j))).1 = true) : foK B S (ts.drop j) u = foK B S (ts.drop (j + 1)) (foK B S (tget ts j).ks (S u (tget ts j))).2 := by
  rw [drop_tget ts j hj, foK_cons, foT_eq, if_pos h, if_pos hk]
end
theorem wts_drop (ts : List Tm) (j : Nat) (hj : j < ts.length) : wts (ts.drop j) = wts (tget ts j).ks + 1 + wts (ts.drop (j + 1)) := by
  rw [drop_tget ts j hj, wts_cons, wt_ks]

/-- How such a call ends. -/
def FoEnd {σ : Type} (N : Nat) (I : σ → World → Prop) (r : Bool × σ) (w : World) (e : Ending) (w' : World) : Prop := e = .returned (.bool r.1) ∧ (r.1 = true → I r.2 w') ∧ Stays N w w'
/-- What is asked of the closure. -/
def Steps {σ : Type} (c : Nat) (B : σ → Tm → Bool) (S : σ → Tm → σ) (w0 : World) (N K : Nat) (I : Nat → σ → World → Prop) : Prop :=
  ∀ r s W t h p l c', I (r + 1) s W → TmIs w0 h p l c' t → Calls Tryd.prog c #[.agg #[.int .u8 h.k, .int .u8 h.op, .int .i64 h.pl, .int .i64 h.n, .string h.name, .string h.arg, .string h.exn, .slice p l c'], .pointer (some ⟨K, 0, none⟩)] W (FoEnd N (I r) (B s t, S s t) W)
/-- The box of the round's term, behind the closure's call. -/
theorem box_stays {N : Nat} {wr W : World} {cs : Array Value} {ty : TypeId} (hN : N < wr.heap.size) (hty : ty ≠ 5) (hs : Stays N (wr.alloc (.cells cs ty)) W) (j : Nat) {v : Value} (hv : cs[j]? = some v) : W.cell? ⟨wr.heap.size, j, none⟩ = some v := by
  rw [hs.cell (p := ⟨wr.heap.size, j, none⟩) (by simp) (fun h => by
    rcases h with h | ⟨_, cur, h⟩
    · simp at h; omega
    · rw [heap_alloc_new wr (.cells cs ty)] at h
      simp at h
      exact hty h.2), World.cell?_alloc_mark, hv]

end Term
end Go.Proofs.YtpedmaomogigmaaDoor
