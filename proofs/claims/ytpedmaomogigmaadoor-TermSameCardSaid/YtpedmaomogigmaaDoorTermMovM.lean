/- The walk of a term whose places are all moved. -/
import Derived.Test.YtpedmaomogigmaaDoorTermHide
import Derived.Test.YtpedmaomogigmaaDoorTermSameP
import Derived.Test.YtpedmaomogigmaaDoorTermManyW
import Derived.StillTailTactics
import Derived.IntWalk
namespace Go.Proofs.YtpedmaomogigmaaDoor
open Go.RowKit
set_option linter.unusedVariables false
namespace Term

mutual
/-- All places moved: to b, those of kids to the next. -/
def movT : Tm → Int → Tm
  | .node h l, b => .node ⟨h.k, h.op, b, h.n, h.name, h.arg, h.exn⟩ (movK l (b + 1))
def movK : List Tm → Int → List Tm
  | [], _ => []
  | t :: ts, b => movT t b :: movK ts b
end
theorem movT_eq (t : Tm) (b : Int) : movT t b = .node ⟨t.h.k, t.h.op, b, t.h.n, t.h.name, t.h.arg, t.h.exn⟩ (movK t.ks (b + 1)) := by cases t; unfold movT; rfl
theorem movK_nil (b : Int) : movK [] b = [] := by unfold movK; rfl
theorem movK_cons (t : Tm) (ts : List Tm) (b : Int) : movK (t :: ts) b = movT t b :: movK ts b := by conv => lhs; unfold movK
theorem movK_append (b : Int) : ∀ ts us : List Tm, movK (ts ++ us) b = movK ts b ++ movK us b
  | [], us => by rw [movK_nil]; rfl
  | t :: ts, us => by rw [List.cons_append, movK_cons, movK_cons, movK_append b ts us]; rfl
theorem movK_len (b : Int) : ∀ ts : List Tm, (movK ts b).length = ts.length
  | [] => by rw [movK_nil]
  | t :: ts => by rw [movK_cons, List.length_cons, List.length_cons, movK_len b ts]
theorem movK_take (ts : List Tm) (j : Nat) (b : Int) (hj : j < ts.length) : movK (ts.take (j + 1)) b = movK (ts.take j) b ++ [movT (tget ts j) b] := by
  rw [take_tget ts j hj, movK_append, movK_cons, movK_nil]
theorem mov_h (t : Tm) (b : Int) : (movT t b).h = ⟨t.h.k, t.h.op, b, t.h.n, t.h.name, t.h.arg, t.h.exn⟩ := by rw [movT_eq, Tm.h]
theorem mov_ks (t : Tm) (b : Int) : (movT t b).ks = movK t.ks (b + 1) := by rw [movT_eq, Tm.ks]
theorem same_mov : ∀ m : Nat, (∀ (t : Tm) (b : Int), wt t ≤ m → sameT t (movT t b) = true) ∧ (∀ (ts : List Tm) (b : Int), wts ts ≤ m → sameK ts (movK ts b) = true) := by
  intro m
  induction m with
  | zero =>
    refine ⟨fun t b h => by have := wt_pos t; omega, fun ts b h => ?_⟩
    cases ts with
    | nil => rw [sameK_nil]
    | cons t ts => rw [wts_cons] at h; have := wt_pos t; omega
  | succ m ih =>
    have hT : ∀ (t : Tm) (b : Int), wt t ≤ m + 1 → sameT t (movT t b) = true := by
      intro t b h
      have hk := wt_ks t
      have e1 : (movT t b).ks = movK t.ks (b + 1) := by rw [movT_eq, Tm.ks]
      have e2 : sameH t.h (movT t b).h = true := by rw [movT_eq, Tm.h]; unfold sameH; simp
      rw [sameT_eq, e1, e2, movK_len, ih.2 t.ks (b + 1) (by omega)]
      simp
    refine ⟨hT, fun ts => ?_⟩
    induction ts with
    | nil => intro b _; rw [sameK_nil]
    | cons t ts ihs =>
      intro b h
      rw [wts_cons] at h
      rw [movK_cons, sameK_cons, hT t b (by omega), ihs b (by omega)]
      rfl

/-- How it ends: a term whose kids lie in new memory alone. -/
def MovEnd (h : Hd) (b : Int) (l : Nat) (t : Tm) (w : World) (e : Ending) (w' : World) : Prop :=
  ∃ q c', e = .returned (.agg #[.int .u8 h.k, .int .u8 h.op, .int .i64 b, .int .i64 h.n, .string h.name, .string h.arg, .string h.exn, .slice q l c']) ∧
    TmIs (veil (fun i => decide (w.heap.size ≤ i)) w') ⟨h.k, h.op, b, h.n, h.name, h.arg, h.exn⟩ q l c' (movT t b) ∧ Below w.heap.size w w'

theorem alloc4 (w : World) (A B C D : Obj) : ((((w.alloc A).alloc B).alloc C).alloc D).heap[w.heap.size]? = some A ∧ ((((w.alloc A).alloc B).alloc C).alloc D).heap[w.heap.size + 1]? = some B ∧
    ((((w.alloc A).alloc B).alloc C).alloc D).heap[w.heap.size + 2]? = some C ∧ ((((w.alloc A).alloc B).alloc C).alloc D).heap[w.heap.size + 3]? = some D ∧ Below w.heap.size w ((((w.alloc A).alloc B).alloc C).alloc D) := by
  have s1 : (w.alloc A).heap.size = w.heap.size + 1 := by simp
  have s2 : ((w.alloc A).alloc B).heap.size = w.heap.size + 2 := by simp
  have s3 : (((w.alloc A).alloc B).alloc C).heap.size = w.heap.size + 3 := by simp
  refine ⟨?_, ?_, ?_, ?_, ((((Below.refl _ _).alloc (Nat.le_refl _) _).alloc (by omega) _).alloc (by omega) _).alloc (by omega) _⟩
  · rw [Below.heap_alloc _ _ _ (by omega), Below.heap_alloc _ _ _ (by omega), Below.heap_alloc _ _ _ (by omega)]; exact heap_alloc_new w A
  · rw [Below.heap_alloc _ _ _ (by omega), Below.heap_alloc _ _ _ (by omega), ← s1]; exact heap_alloc_new _ B
  · rw [Below.heap_alloc _ _ _ (by omega), ← s2]; exact heap_alloc_new _ C
  · rw [← s3]; exact heap_alloc_new _ D

/-- What is seen of kids that were moved: new memory, but not the row's own. -/
def seen (B : Nat) (a : Option Addr) (i : Nat) : Bool := decide (B + 4 ≤ i) && decide (a.map (·.block) ≠ some i)
/-- The round's state. -/
structure MovAt (w : World) (k op pl nn b : Int) (nm ar ex : ByteArray) (p : Option Addr) (l c : Nat) (t : Tm) (j : Nat) (a : Option Addr) (c0 : Nat) (xs : List Value) (W : World) : Prop where
  below : Below w.heap.size w W
  box : W.heap[w.heap.size]? = some (.cells #[.int .u8 k, .int .u8 op, .int .i64 pl, .int .i64 nn, .string nm, .string ar, .string ex, .slice p l c] 26 (0, 0))
  res : W.heap[w.heap.size + 1]? = some (.cells #[.int .u8 0, .int .u8 0, .int .i64 0, .int .i64 0, .string ⟨#[]⟩, .string ⟨#[]⟩, .string ⟨#[]⟩, .slice none 0 0] 26 (0, 0))
  out : W.heap[w.heap.size + 2]? = some (.cells #[.int .u8 k, .int .u8 op, .int .i64 b, .int .i64 nn, .string nm, .string ar, .string ex, .slice a j c0] 26 (0, 0))
  at0 : ∃ g, a = some ⟨g, 0, none⟩
  own : W.ownsRow (w.heap.size + 3) 26 8 (.slice a j c0) j xs
  flat : Flat (veil (seen w.heap.size a) W) xs (movK (t.ks.take j) (b + 1))
theorem own_block {a : Option Addr} {j c0 : Nat} (k : Nat) : (Value.slice a j c0).ownBlock = some k ↔ a.map (·.block) = some k := by
  cases a with
  | none => simp [Value.ownBlock]
  | some x => simp [Value.ownBlock]

theorem mov_step {w W w2 w3 : World} {k op pl nn b : Int} {nm ar ex : ByteArray} {p : Option Addr} {l c : Nat} {t : Tm} {j : Nat} {a : Option Addr} {c0 : Nat} {xs : List Value} (h : MovAt w k op pl nn b nm ar ex p l c t j a c0 xs W)
    (hj : j < t.ks.length) (hb2 : Below W.heap.size W w2) {hd : Hd} {q : Option Addr} {l2 c2 : Nat} (hT2 : TmIs (veil (fun i => decide (W.heap.size ≤ i)) w2) hd q l2 c2 (movT (tget t.ks j) (b + 1))) {O : Obj} {a3 : Option Addr} {c3 : Nat} (ha3 : ∃ g, a3 = some ⟨g, 0, none⟩)
    (ho3 : w3.ownsRow (w.heap.size + 3) 26 8 (.slice a3 (j + 1) c3) (j + 1) (xs ++ tcells hd q l2 c2)) (hg3 : (w2.alloc O).grownBy w3 (Value.slice a j c0).ownBlock) (ht3 : ∀ k, (Value.slice a3 (j + 1) c3).ownBlock = some k → (Value.slice a j c0).ownBlock = some k ∨ k = (w2.alloc O).heap.size) :
    w3.heap[w.heap.size + 2]? = some (.cells #[.int .u8 k, .int .u8 op, .int .i64 b, .int .i64 nn, .string nm, .string ar, .string ex, .slice a j c0] 26 (0, 0)) ∧ MovAt w k op pl nn b nm ar ex p l c t (j + 1) a3 c3 (xs ++ tcells hd q l2 c2) (w3.setCell ⟨w.heap.size + 2, 7, none⟩ (.slice a3 (j + 1) c3)) := by
  have hge : ∀ g, (Value.slice a j c0).ownBlock = some g → w.heap.size + 3 ≤ g ∧ g < W.heap.size := fun g hg => h.own.lt g hg
  have hsz : (w2.alloc O).heap.size = w2.heap.size + 1 := by simp
  have hW : W.heap.size ≤ w2.heap.size := hb2.size
  have keep : ∀ i, i < W.heap.size → (Value.slice a j c0).ownBlock ≠ some i → w3.heap[i]? = W.heap[i]? := fun i hi hn => by
    rw [hg3.block i (by omega) (fun e => hn e.symm), Below.heap_alloc _ _ _ (by omega), hb2.block i hi]
  have hl0 := lt_of_block h.box; have hl1 := lt_of_block h.res; have hl2 := lt_of_block h.out
  have n0 : ∀ i, i < w.heap.size + 3 → (Value.slice a j c0).ownBlock ≠ some i := fun i hi e => by have := (hge i e).1; omega
  have e2 : w3.heap[w.heap.size + 2]? = some (.cells #[.int .u8 k, .int .u8 op, .int .i64 b, .int .i64 nn, .string nm, .string ar, .string ex, .slice a j c0] 26 (0, 0)) := by rw [keep _ hl2 (n0 _ (by omega))]; exact h.out
  have hs : ∀ (u : Value) (i : Nat), i ≠ w.heap.size + 2 → (w3.setCell ⟨w.heap.size + 2, 7, none⟩ u).heap[i]? = w3.heap[i]? := fun u i hi => Below.heap_setCell _ _ _ _ hi
  have hseen : ∀ i, seen w.heap.size a3 i = true ↔ w.heap.size + 4 ≤ i ∧ (Value.slice a3 (j + 1) c3).ownBlock ≠ some i := fun i => by
    unfold seen
    rw [Bool.and_eq_true, decide_eq_true_eq, decide_eq_true_eq, Ne, Ne, own_block]
  refine ⟨e2, ⟨?_, ?_, ?_, ?_, ha3, ?_, ?_⟩⟩
  · have hb3 : Below w.heap.size w (w2.alloc O) := (below_then h.below hb2 h.below.size).alloc (by have := h.below.size; omega) O
    exact (hb3.grown hg3 hb3.size (fun g hg => by have := (hge g hg).1; omega)).setCell (by show w.heap.size ≤ w.heap.size + 2; omega) _
  · rw [hs _ _ (by omega), keep _ hl0 (n0 _ (by omega))]; exact h.box
  · rw [hs _ _ (by omega), keep _ hl1 (n0 _ (by omega))]; exact h.res
  · simp [World.setCell, Array.getElem?_modify, e2]
  · exact ownsRow_setCell_below ho3 (a := ⟨w.heap.size + 2, 7, none⟩) (by show w.heap.size + 2 < w.heap.size + 3; omega) _
  · rw [movK_take _ _ _ hj]
    refine (h.flat.reads (veil_to fun i hi hp => ?_)).append (Flat.one (hT2.reads' (veil_to fun i hi hp => ?_)))
    · unfold seen at hp
      rw [Bool.and_eq_true, decide_eq_true_eq, decide_eq_true_eq, Ne, ← own_block (j := j) (c0 := c0)] at hp
      have hne : (Value.slice a3 (j + 1) c3).ownBlock ≠ some i := fun e => by
        rcases ht3 i e with h1 | h1
        · exact hp.2 h1
        · omega
      refine ⟨(hseen i).2 ⟨hp.1, hne⟩, ?_⟩
      rw [hs _ _ (by omega), keep i hi hp.2]
    · have hp' := of_decide_eq_true hp
      have hlo : w.heap.size + 4 ≤ i := by
        obtain ⟨g, rfl⟩ := h.at0
        have := hge g rfl
        omega
      have hno : (Value.slice a j c0).ownBlock ≠ some i := fun e => by have := (hge i e).2; omega
      have hne : (Value.slice a3 (j + 1) c3).ownBlock ≠ some i := fun e => by
        rcases ht3 i e with h1 | h1
        · exact hno h1
        · omega
      refine ⟨(hseen i).2 ⟨hlo, hne⟩, ?_⟩
      rw [hs _ _ (by omega), hg3.block i (by omega) (fun e => hno e.symm), Below.heap_alloc _ _ _ hi]
/-- The way out: what was gathered are the kids. -/
theorem mov_done {w W W' : World} {k op pl nn b : Int} {nm ar ex : ByteArray} {p : Option Addr} {l c : Nat} {t : Tm} {a : Option Addr} {c0 : Nat} {xs : List Value} (h : MovAt w k op pl nn b nm ar ex p l c t l a c0 xs W) (hT : TmIs w ⟨k, op, pl, nn, nm, ar, ex⟩ p l c t)
    (hp : -9223372036854775808 ≤ b ∧ b ≤ 9223372036854775807) (hW : ∀ i, i ≠ w.heap.size + 1 → W'.heap[i]? = W.heap[i]?) :
    TmIs (veil (fun i => decide (w.heap.size ≤ i)) W') ⟨k, op, b, nn, nm, ar, ex⟩ a l c0 (movT t b) := by
  have hall : t.ks.take l = t.ks := List.take_of_length_le (by rw [hT.len]; exact Nat.le_refl _)
  have hf := h.flat
  rw [hall] at hf
  have hk := hT.head
  have ho := hT.ok
  obtain ⟨g, hg⟩ := h.at0
  have hcap : l ≤ c0 ∧ c0 ≤ maxLen := by
    rcases h.own.2 with ⟨hv, h0⟩ | ⟨g', cap, cur, hv, _, _, h1, h2, _⟩
    · rw [hg] at hv; injection hv with hv; cases hv
    · injection hv with _ _ hv; subst hv; exact ⟨h1, h2⟩
  refine ⟨by rw [mov_h, hk], by rw [mov_ks, movK_len, hT.len], ⟨ho.k, ho.op, hp, ho.n, ho.name, ho.arg, ho.exn⟩, hcap, ?_⟩
  rw [mov_ks]
  have hblk : ∀ i, (Value.slice a l c0).ownBlock = some i → w.heap.size + 3 ≤ i := fun i hi => (h.own.lt i hi).1
  have hown : W'.ownsRow (w.heap.size + 3) 26 8 (.slice a l c0) l xs := by
    refine ⟨h.own.1, h.own.2.imp id ?_⟩
    rintro ⟨g', cap, cur, hv, hb, hh, r⟩
    exact ⟨g', cap, cur, hv, hb, by rw [hW g' (by omega)]; exact hh, r⟩
  have hown2 := veil_own (P := fun i => decide (w.heap.size ≤ i)) hown (fun i hi => decide_eq_true (by have := hblk i hi; omega))
  have hfl : Flat (veil (fun i => decide (w.heap.size ≤ i)) W') xs (movK t.ks (b + 1)) := hf.reads (veil_to fun i hi hp => by
    unfold seen at hp
    rw [Bool.and_eq_true, decide_eq_true_eq] at hp
    exact ⟨decide_eq_true (by omega), hW i (by omega)⟩)
  subst hg
  exact kids_of_own hown2 hfl (Below.refl _ _) (by rw [movK_len, hT.len])
end Term
end Go.Proofs.YtpedmaomogigmaaDoor
