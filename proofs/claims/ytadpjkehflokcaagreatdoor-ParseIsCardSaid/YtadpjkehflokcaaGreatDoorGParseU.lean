/-The document's parser: what its functions keep: the state's box, the results' boxes, terms that a call has laid; stores into a term's box. A row of terms that grows. The document's parser: one unary. (Written by wip/tools/unary.py.) -/
import Derived.Test.YtadpjkehflokcaaGreatDoorGParseR
import Derived.Maps.AppendAt
import Derived.Deep.LoopGhost
namespace Go.Proofs.YtadpjkehflokcaaGreatDoor
open Go.RowKit
set_option linter.unusedVariables false
set_option linter.unusedSimpArgs false
namespace Parse
open Token (Tok tel ToksAt)
open Term (Tm Hd TmIs Flat tcells veil Reads HdOk Kids)

theorem bx_call {W W' : World} {N : Nat} {O : Obj} (h : W.heap[N]? = some O) (hb : Below W.heap.size W W') : W'.heap[N]? = some O := (hb.block _ (lt_of_block h)).trans h
theorem bx_put {W W' : World} {N M : Nat} {O : Obj} {cs : Array Value} {ty : TypeId} (h : W.heap[N]? = some O) (hp : Put1 M cs ty W W') (hn : N ≠ M) : W'.heap[N]? = some O := (hp.off _ hn).trans h
theorem al_new {W : World} (O : Obj) : Below W.heap.size W (W.alloc O) := (Below.refl _ _).alloc (Nat.le_refl _) O
theorem preN_hit (x : ByteArray) (j : Nat) (hj : j < 4) (h : Words.sel [wFst, wSnd, wRef, wGet] j = x) : preN x = j := by
  subst h
  have : j = 0 ∨ j = 1 ∨ j = 2 ∨ j = 3 := by omega
  rcases this with rfl | rfl | rfl | rfl <;> decide +kernel
theorem preN_miss (x : ByteArray) (h : ∀ k, k < 4 → Words.sel [wFst, wSnd, wRef, wGet] k ≠ x) : preN x = 4 := by
  have h0 : wFst ≠ x := h 0 (by omega)
  have h1 : wSnd ≠ x := h 1 (by omega)
  have h2 : wRef ≠ x := h 2 (by omega)
  have h3 : wGet ≠ x := h 3 (by omega)
  unfold preN
  rw [if_neg (fun e => h0 e.symm), if_neg (fun e => h1 e.symm), if_neg (fun e => h2 e.symm), if_neg (fun e => h3 e.symm)]
theorem hd_unary {k pl : Int} (hk : 0 ≤ k ∧ k ≤ 255) (hp : -9223372036854775808 ≤ pl ∧ pl ≤ 9223372036854775807) : HdOk ⟨k, 0, pl, 0, ⟨#[]⟩, ⟨#[]⟩, ⟨#[]⟩⟩ := hd_join hk (by omega) hp
theorem dhd_any {k pl nn : Int} {nm ar ex : ByteArray} (hk : 0 ≤ k ∧ k ≤ 255) (hp : -9223372036854775808 ≤ pl ∧ pl ≤ 9223372036854775807) (hn : -9223372036854775808 ≤ nn ∧ nn ≤ 9223372036854775807) (h1 : nm.size ≤ 70000) (h2 : ar.size ≤ 70000) (h3 : ex.size ≤ 70000) : HdOk ⟨k, 0, pl, nn, nm, ar, ex⟩ :=
  ⟨hk, ⟨Int.le_refl _, by show (0 : Int) ≤ 255; omega⟩, hp, hn, by unfold maxLen; show nm.size ≤ _; omega, by unfold maxLen; show ar.size ≤ _; omega, by unfold maxLen; show ex.size ≤ _; omega⟩
theorem e_small : (⟨#[]⟩ : ByteArray).size ≤ 70000 := Nat.zero_le _
theorem getS_small {w : World} {g n c : Nat} {ts : List Tok} (hR : RowAt w g n c ts) (s : St) (hs : s.i < n) (k : Int) : (getS ts s k).size ≤ 70000 := by
  unfold getS
  split
  · exact e_small
  · exact hR.texts _ hs
theorem want_n {w : World} {g n c : Nat} {ts : List Tok} (hR : RowAt w g n c ts) {s : St} {x : ByteArray} (hx : x ≠ ⟨#[]⟩) (hs : s.i < n) : (wantF ts s x).i < n := by
  have := want_lt ts hR.row hx (s := s) (by rw [hR.len]; exact hs)
  rw [hR.len] at this; exact this
theorem get_n {w : World} {g n c : Nat} {ts : List Tok} (hR : RowAt w g n c ts) {s : St} {k : Int} (hk : k ≠ 6) (hs : s.i < n) : (getF ts s k).i < n := by
  have := get_lt ts hR.row hk (s := s) (by rw [hR.len]; exact hs)
  rw [hR.len] at this; exact this
theorem unary_n {w : World} {g n c : Nat} {ts : List Tok} (hR : RowAt w g n c ts) {m : Nat} {s : St} {r : St × Tm} (hs : s.i < n) (h : unaryF ts m s = some r) : r.1.i < n := by
  have := (lt_all ts hR.row m).2.2.2.2.2.2 s r (by rw [hR.len]; exact hs) h
  rw [hR.len] at this; exact this
theorem expr_n {w : World} {g n c : Nat} {ts : List Tok} (hR : RowAt w g n c ts) {m : Nat} {s : St} {r : St × Tm} (hs : s.i < n) (h : exprF ts m s = some r) : r.1.i < n := by
  have := (lt_all ts hR.row m).1 s r (by rw [hR.len]; exact hs) h
  rw [hR.len] at this; exact this
theorem row_next {w : World} {g n c : Nat} {ts : List Tok} (hR : RowAt w g n c ts) {i : Nat} (hi : i < n) (hk : (tel ts i).k ≠ 6) : i + 1 < n := by
  have := hR.row.next ts (by rw [hR.len]; exact hi) hk
  rw [hR.len] at this
  exact this
theorem row_text {w : World} {g n c : Nat} {ts : List Tok} (hR : RowAt w g n c ts) {i : Nat} (hi : i < n) (ht : textOf ts i ≠ ⟨#[]⟩) : i + 1 < n :=
  row_next hR hi (by have := textOf_some ts ht; omega)
/-- A function of the parser: its state's box, and its results' boxes. -/
structure PS (w : World) (g n c : Nat) (s : St) (W : World) : Prop where
  below : Below w.heap.size w W
  b1 : W.heap[w.heap.size]? = some (.cells #[.slice (some ⟨g, 0, none⟩) n c, .int .i64 s.i, .bool s.bad] 56 (0, 0))
  b2 : W.heap[w.heap.size + 1]? = some (.cells #[.slice none 0 0, .int .i64 0, .bool false] 56 (0, 0))
  b3 : W.heap[w.heap.size + 1 + 1]? = some (.cells #[.int .u8 0, .int .u8 0, .int .i64 0, .int .i64 0, .string ⟨#[]⟩, .string ⟨#[]⟩, .string ⟨#[]⟩, .slice none 0 0] 29 (0, 0))
  lt : s.i < n
theorem PS.call {w : World} {g n c : Nat} {s : St} {W W' : World} (k : PS w g n c s W) (hb : Below W.heap.size W W') : PS w g n c s W' :=
  ⟨k.below.trans (hb.mono k.below.size), bx_call k.b1 hb, bx_call k.b2 hb, bx_call k.b3 hb, k.lt⟩
theorem PS.state {w : World} {g n c : Nat} {s s' : St} {W W' : World} (k : PS w g n c s W) (hp : Put1 w.heap.size #[.slice (some ⟨g, 0, none⟩) n c, .int .i64 s'.i, .bool s'.bad] 56 W W') (hl : s'.i < n) : PS w g n c s' W' :=
  ⟨hp.below k.below (Nat.le_refl _), hp.here, bx_put k.b2 hp (by omega), bx_put k.b3 hp (by omega), hl⟩
theorem PS.put {w : World} {g n c : Nat} {s : St} {W W' : World} {N : Nat} {cs : Array Value} {ty : TypeId} (k : PS w g n c s W) (hp : Put1 N cs ty W W') (hN : w.heap.size + 3 ≤ N) : PS w g n c s W' :=
  ⟨hp.below k.below (by omega), bx_put k.b1 hp (by omega), bx_put k.b2 hp (by omega), bx_put k.b3 hp (by omega), k.lt⟩
theorem PS.size {w : World} {g n c : Nat} {s : St} {W : World} (k : PS w g n c s W) : w.heap.size + 3 ≤ W.heap.size := by have := lt_of_block k.b3; omega
theorem ps_new (w : World) (g n c : Nat) (s : St) (hs : s.i < n) : PS w g n c s (((w.alloc (.cells #[.slice (some ⟨g, 0, none⟩) n c, .int .i64 s.i, .bool s.bad] 56)).alloc (.cells #[.slice none 0 0, .int .i64 0, .bool false] 56)).alloc (.cells #[.int .u8 0, .int .u8 0, .int .i64 0, .int .i64 0, .string ⟨#[]⟩, .string ⟨#[]⟩, .string ⟨#[]⟩, .slice none 0 0] 29)) := by
  have z1 : (w.alloc (.cells #[.slice (some ⟨g, 0, none⟩) n c, .int .i64 s.i, .bool s.bad] 56)).heap.size = w.heap.size + 1 := by simp
  have z2 : ((w.alloc (.cells #[.slice (some ⟨g, 0, none⟩) n c, .int .i64 s.i, .bool s.bad] 56)).alloc (.cells #[.slice none 0 0, .int .i64 0, .bool false] 56)).heap.size = w.heap.size + 1 + 1 := by simp
  refine ⟨(((Below.refl _ _).alloc (Nat.le_refl _) _).alloc (by simp) _).alloc (by simp; omega) _, ?_, ?_, ?_, hs⟩
  · rw [Below.heap_alloc _ _ _ (by omega), Below.heap_alloc _ _ _ (by omega)]; exact heap_alloc_new _ _
  · rw [Below.heap_alloc _ _ _ (by omega), ← z1]; exact heap_alloc_new _ _
  · rw [← z2]; exact heap_alloc_new _ _
/-- A term that a call has laid, from block B on, in the world A; W is later. -/
structure TmFr (B : Nat) (A : World) (h : Hd) (q : Option Addr) (l d : Nat) (t : Tm) (W : World) : Prop where
  tm : TmIs (fresh B A) h q l d t
  off : ∀ b, B ≤ b → b < A.heap.size → W.heap[b]? = A.heap[b]?
  size : A.heap.size ≤ W.heap.size
theorem TmFr.new {B : Nat} {A : World} {h : Hd} {q : Option Addr} {l d : Nat} {t : Tm} (hT : TmIs (fresh B A) h q l d t) : TmFr B A h q l d t A := ⟨hT, fun _ _ _ => rfl, Nat.le_refl _⟩
theorem TmFr.call {B : Nat} {A : World} {h : Hd} {q : Option Addr} {l d : Nat} {t : Tm} {W W' : World} (k : TmFr B A h q l d t W) (hb : Below W.heap.size W W') : TmFr B A h q l d t W' :=
  ⟨k.tm, fun b h1 h2 => (hb.block b (Nat.lt_of_lt_of_le h2 k.size)).trans (k.off b h1 h2), Nat.le_trans k.size hb.size⟩
theorem TmFr.put {B : Nat} {A : World} {h : Hd} {q : Option Addr} {l d : Nat} {t : Tm} {W W' : World} {N : Nat} {cs : Array Value} {ty : TypeId} (k : TmFr B A h q l d t W) (hp : Put1 N cs ty W W') (hN : N < B ∨ A.heap.size ≤ N) : TmFr B A h q l d t W' :=
  ⟨k.tm, fun b h1 h2 => (hp.off b (by omega)).trans (k.off b h1 h2), by rw [hp.size]; exact k.size⟩
theorem TmFr.fresh {B B0 : Nat} {A : World} {h : Hd} {q : Option Addr} {l d : Nat} {t : Tm} {W : World} (k : TmFr B A h q l d t W) (hB : B0 ≤ B) : TmIs (fresh B0 W) h q l d t :=
  k.tm.reads' (fresh_step hB fun b h1 h2 => k.off b h1 h2)
/-- A node without kids. -/
theorem node0 (V : World) {h : Hd} (hd : HdOk h) (q : Option Addr) : TmIs V h q 0 0 (.node h []) := ⟨rfl, rfl, hd, ⟨Nat.le_refl _, Nat.zero_le _⟩, .nokids _⟩
/-- A node of one kid, that lies in the block X. -/
theorem node1 {B X : Nat} {W : World} {h h' : Hd} {q : Option Addr} {l d : Nat} {t : Tm} {ty : TypeId} (hT : TmIs (fresh B W) h q l d t) (hX : B ≤ X) (hx : W.heap[X]? = some (.cells (tcells h q l d).toArray ty (0, 0))) (hd : HdOk h') :
    TmIs (fresh B W) h' (some ⟨X, 0, none⟩) 1 1 (.node h' [t]) :=
  tm_row (V := fun i => decide (B ≤ i)) (decide_eq_true hX) hx (Flat.one hT) hd (by unfold maxLen; show (1 : Nat) ≤ _; omega)
theorem node2 {B X : Nat} {W : World} {h h1 h' : Hd} {q q1 : Option Addr} {l d l1 d1 : Nat} {t u : Tm} {ty : TypeId} (hT : TmIs (fresh B W) h q l d t) (hU : TmIs (fresh B W) h1 q1 l1 d1 u) (hX : B ≤ X) (hx : W.heap[X]? = some (.cells (tcells h q l d ++ tcells h1 q1 l1 d1).toArray ty (0, 0))) (hd : HdOk h') :
    TmIs (fresh B W) h' (some ⟨X, 0, none⟩) 2 2 (.node h' [t, u]) :=
  tm_row (V := fun i => decide (B ≤ i)) (decide_eq_true hX) hx ((Flat.one hT).append (Flat.one hU)) hd (by unfold maxLen; show (2 : Nat) ≤ _; omega)
/-- While the two results are written; what was there stays. -/
structure EndV (w wr V : World) : Prop where
  below : Below w.heap.size w V
  size : wr.heap.size ≤ V.heap.size
  off : ∀ b, b < wr.heap.size → b ≠ w.heap.size + 1 → b ≠ w.heap.size + 1 + 1 → V.heap[b]? = wr.heap[b]?
  s2 : ∃ a b c, V.heap[w.heap.size + 1]? = some (.cells #[a, b, c] 56 (0, 0))
  s3 : ∃ a b c d e f g h, V.heap[w.heap.size + 1 + 1]? = some (.cells #[a, b, c, d, e, f, g, h] 29 (0, 0))
theorem EndV.of_ps {w : World} {g n c : Nat} {s : St} {W : World} (k : PS w g n c s W) : EndV w W W.drew := ⟨k.below.drew, Nat.le_refl _, fun _ _ _ _ => rfl, ⟨_, _, _, k.b2⟩, ⟨_, _, _, _, _, _, _, _, k.b3⟩⟩
theorem EndV.of_ps' {w : World} {g n c : Nat} {s : St} {W : World} (k : PS w g n c s W) : EndV w W W := ⟨k.below, Nat.le_refl _, fun _ _ _ _ => rfl, ⟨_, _, _, k.b2⟩, ⟨_, _, _, _, _, _, _, _, k.b3⟩⟩
theorem EndV.call {w wr V W : World} (h : EndV w wr V) (hb : Below V.heap.size V W) : EndV w wr W := by
  obtain ⟨a, b, c, h2⟩ := h.s2
  obtain ⟨a1, a2, a3, a4, a5, a6, a7, a8, h3⟩ := h.s3
  exact ⟨h.below.trans (hb.mono h.below.size), Nat.le_trans h.size hb.size, fun b h1 k1 k2 => (hb.block b (Nat.lt_of_lt_of_le h1 h.size)).trans (h.off b h1 k1 k2), ⟨_, _, _, bx_call h2 hb⟩, ⟨_, _, _, _, _, _, _, _, bx_call h3 hb⟩⟩
theorem EndV.two {w wr V W : World} {p : Option Addr} {n c : Nat} {i : Int} {b : Bool} (h : EndV w wr V) (hp : Put1 (w.heap.size + 1) #[.slice p n c, .int .i64 i, .bool b] 56 V W) : EndV w wr W := by
  obtain ⟨a1, a2, a3, a4, a5, a6, a7, a8, h3⟩ := h.s3
  exact ⟨hp.below h.below (by omega), by rw [hp.size]; exact h.size, fun b h0 h1 h2 => (hp.off b h1).trans (h.off b h0 h1 h2), ⟨_, _, _, hp.here⟩, ⟨_, _, _, _, _, _, _, _, bx_put h3 hp (by omega)⟩⟩
theorem EndV.three {w wr V W : World} {k op pl nn : Int} {nm ar ex : ByteArray} {p : Option Addr} {l d : Nat} (h : EndV w wr V) (hp : Put1 (w.heap.size + 1 + 1) #[.int .u8 k, .int .u8 op, .int .i64 pl, .int .i64 nn, .string nm, .string ar, .string ex, .slice p l d] 29 V W) : EndV w wr W := by
  obtain ⟨a1, a2, a3, h2⟩ := h.s2
  exact ⟨hp.below h.below (by omega), by rw [hp.size]; exact h.size, fun b h0 h1 h2 => (hp.off b h2).trans (h.off b h0 h1 h2), ⟨_, _, _, bx_put h2 hp (by omega)⟩, ⟨_, _, _, _, _, _, _, _, hp.here⟩⟩
/-- A term that was laid is what it was, at the end. -/
theorem TmFr.fin {B : Nat} {A : World} {h : Hd} {q : Option Addr} {l d : Nat} {t : Tm} {w wr V : World} (k : TmFr B A h q l d t wr) (hB : w.heap.size + 3 ≤ B) (hE : EndV w wr V) : TmIs (Parse.fresh w.heap.size V) h q l d t :=
  k.tm.reads' (fresh_step (by omega) fun b h1 h2 => (hE.off b (Nat.lt_of_lt_of_le h2 k.size) (by omega) (by omega)).trans (k.off b h1 h2))
theorem wp_stF0 (ps : String) (ty : TypeId) (af : Array Edge) (a : Act) (w : World) (K : Act → World → Prop) (Q : Exit → Act → World → Prop) (N x : Nat) (y : Operand) (k : Int) (c0 c1 c2 c3 c4 c5 c6 c7 : Value)
    (hx : a.tmps[x]?.getD undef = .pointer (some ⟨N, 0, none⟩)) (hy : a.eval y = .int .u8 k) (hc : w.heap[N]? = some (.cells #[c0, c1, c2, c3, c4, c5, c6, c7] 29 (0, 0)))
    (h : K a (w.setCell ⟨N, 0, none⟩ (.int .u8 k))) :
    Oper.wp Tryz.prog { dst := none, op := .store 5 (.tmp x) y, type := ty, pos := ps, after := af, guard := none } a w K Q := by
  obtain ⟨⟨q0, q1, q2, q3, q4, q5, q6, q7⟩, e0, e1, e2, e3, e4, e5, e6, e7⟩ := cells8' hc
  have ql := lt_of_block hc
  clear hc
  rcases y with t | v | t | t
  · simp only [Act.eval] at hy
    go_simp
    exact h
  · simp only [Act.eval] at hy
    subst hy
    go_simp
    exact h
  · simp [Act.eval] at hy
  · simp [Act.eval] at hy
theorem wpList_stF0 {w : World} {ops : Array Oper} {rest : List Oper} {a : Act} {Q : Exit → Act → World → Prop} {ps : String} {ty : TypeId} {af : Array Edge} (N x : Nat) (y : Operand) (k : Int) (c0 c1 c2 c3 c4 c5 c6 c7 : Value)
    (hx : a.tmps[x]?.getD undef = .pointer (some ⟨N, 0, none⟩)) (hy : a.eval y = .int .u8 k) (hc : w.heap[N]? = some (.cells #[c0, c1, c2, c3, c4, c5, c6, c7] 29 (0, 0)))
    (h : ∀ W', Put1 N #[.int .u8 k, c1, c2, c3, c4, c5, c6, c7] 29 w W' → wpList Tryz.prog ops Q rest a W') :
    wpList Tryz.prog ops Q ({ dst := none, op := .store 5 (.tmp x) y, type := ty, pos := ps, after := af, guard := none } :: rest) a w :=
  wpList_plain rfl fun K hK => wp_stF0 _ _ _ _ _ _ _ N x y k c0 c1 c2 c3 c4 c5 c6 c7 hx hy hc (hK _ _ (h _ ⟨rfl, rfl, rfl, by simp [World.setCell], by
    have h0 := set_block (j := 0) (v := .int .u8 k) hc
    rw [show (#[c0, c1, c2, c3, c4, c5, c6, c7] : Array Value).setIfInBounds 0 (.int .u8 k) = #[.int .u8 k, c1, c2, c3, c4, c5, c6, c7] from rfl] at h0
    exact h0, fun k hk => Below.heap_setCell _ _ _ _ hk⟩))
theorem wp_stF2 (ps : String) (ty : TypeId) (af : Array Edge) (a : Act) (w : World) (K : Act → World → Prop) (Q : Exit → Act → World → Prop) (N x : Nat) (y : Operand) (k : Int) (c0 c1 c2 c3 c4 c5 c6 c7 : Value)
    (hx : a.tmps[x]?.getD undef = .pointer (some ⟨N, 2, none⟩)) (hy : a.eval y = .int .i64 k) (hc : w.heap[N]? = some (.cells #[c0, c1, c2, c3, c4, c5, c6, c7] 29 (0, 0)))
    (h : K a (w.setCell ⟨N, 2, none⟩ (.int .i64 k))) :
    Oper.wp Tryz.prog { dst := none, op := .store 3 (.tmp x) y, type := ty, pos := ps, after := af, guard := none } a w K Q := by
  obtain ⟨⟨q0, q1, q2, q3, q4, q5, q6, q7⟩, e0, e1, e2, e3, e4, e5, e6, e7⟩ := cells8' hc
  have ql := lt_of_block hc
  clear hc
  rcases y with t | v | t | t
  · simp only [Act.eval] at hy
    go_simp
    exact h
  · simp only [Act.eval] at hy
    subst hy
    go_simp
    exact h
  · simp [Act.eval] at hy
  · simp [Act.eval] at hy
theorem wpList_stF2 {w : World} {ops : Array Oper} {rest : List Oper} {a : Act} {Q : Exit → Act → World → Prop} {ps : String} {ty : TypeId} {af : Array Edge} (N x : Nat) (y : Operand) (k : Int) (c0 c1 c2 c3 c4 c5 c6 c7 : Value)
    (hx : a.tmps[x]?.getD undef = .pointer (some ⟨N, 2, none⟩)) (hy : a.eval y = .int .i64 k) (hc : w.heap[N]? = some (.cells #[c0, c1, c2, c3, c4, c5, c6, c7] 29 (0, 0)))
    (h : ∀ W', Put1 N #[c0, c1, .int .i64 k, c3, c4, c5, c6, c7] 29 w W' → wpList Tryz.prog ops Q rest a W') :
    wpList Tryz.prog ops Q ({ dst := none, op := .store 3 (.tmp x) y, type := ty, pos := ps, after := af, guard := none } :: rest) a w :=
  wpList_plain rfl fun K hK => wp_stF2 _ _ _ _ _ _ _ N x y k c0 c1 c2 c3 c4 c5 c6 c7 hx hy hc (hK _ _ (h _ ⟨rfl, rfl, rfl, by simp [World.setCell], by
    have h0 := set_block (j := 2) (v := .int .i64 k) hc
    rw [show (#[c0, c1, c2, c3, c4, c5, c6, c7] : Array Value).setIfInBounds 2 (.int .i64 k) = #[c0, c1, .int .i64 k, c3, c4, c5, c6, c7] from rfl] at h0
    exact h0, fun k hk => Below.heap_setCell _ _ _ _ hk⟩))
theorem wp_stF3 (ps : String) (ty : TypeId) (af : Array Edge) (a : Act) (w : World) (K : Act → World → Prop) (Q : Exit → Act → World → Prop) (N x : Nat) (y : Operand) (k : Int) (c0 c1 c2 c3 c4 c5 c6 c7 : Value)
    (hx : a.tmps[x]?.getD undef = .pointer (some ⟨N, 3, none⟩)) (hy : a.eval y = .int .i64 k) (hc : w.heap[N]? = some (.cells #[c0, c1, c2, c3, c4, c5, c6, c7] 29 (0, 0)))
    (h : K a (w.setCell ⟨N, 3, none⟩ (.int .i64 k))) :
    Oper.wp Tryz.prog { dst := none, op := .store 2 (.tmp x) y, type := ty, pos := ps, after := af, guard := none } a w K Q := by
  obtain ⟨⟨q0, q1, q2, q3, q4, q5, q6, q7⟩, e0, e1, e2, e3, e4, e5, e6, e7⟩ := cells8' hc
  have ql := lt_of_block hc
  clear hc
  rcases y with t | v | t | t
  · simp only [Act.eval] at hy
    go_simp
    exact h
  · simp only [Act.eval] at hy
    subst hy
    go_simp
    exact h
  · simp [Act.eval] at hy
  · simp [Act.eval] at hy
theorem wpList_stF3 {w : World} {ops : Array Oper} {rest : List Oper} {a : Act} {Q : Exit → Act → World → Prop} {ps : String} {ty : TypeId} {af : Array Edge} (N x : Nat) (y : Operand) (k : Int) (c0 c1 c2 c3 c4 c5 c6 c7 : Value)
    (hx : a.tmps[x]?.getD undef = .pointer (some ⟨N, 3, none⟩)) (hy : a.eval y = .int .i64 k) (hc : w.heap[N]? = some (.cells #[c0, c1, c2, c3, c4, c5, c6, c7] 29 (0, 0)))
    (h : ∀ W', Put1 N #[c0, c1, c2, .int .i64 k, c4, c5, c6, c7] 29 w W' → wpList Tryz.prog ops Q rest a W') :
    wpList Tryz.prog ops Q ({ dst := none, op := .store 2 (.tmp x) y, type := ty, pos := ps, after := af, guard := none } :: rest) a w :=
  wpList_plain rfl fun K hK => wp_stF3 _ _ _ _ _ _ _ N x y k c0 c1 c2 c3 c4 c5 c6 c7 hx hy hc (hK _ _ (h _ ⟨rfl, rfl, rfl, by simp [World.setCell], by
    have h0 := set_block (j := 3) (v := .int .i64 k) hc
    rw [show (#[c0, c1, c2, c3, c4, c5, c6, c7] : Array Value).setIfInBounds 3 (.int .i64 k) = #[c0, c1, c2, .int .i64 k, c4, c5, c6, c7] from rfl] at h0
    exact h0, fun k hk => Below.heap_setCell _ _ _ _ hk⟩))
theorem wp_stF4 (ps : String) (ty : TypeId) (af : Array Edge) (a : Act) (w : World) (K : Act → World → Prop) (Q : Exit → Act → World → Prop) (N x : Nat) (y : Operand) (k : ByteArray) (c0 c1 c2 c3 c4 c5 c6 c7 : Value)
    (hx : a.tmps[x]?.getD undef = .pointer (some ⟨N, 4, none⟩)) (hy : a.eval y = .string k) (hc : w.heap[N]? = some (.cells #[c0, c1, c2, c3, c4, c5, c6, c7] 29 (0, 0)))
    (h : K a (w.setCell ⟨N, 4, none⟩ (.string k))) :
    Oper.wp Tryz.prog { dst := none, op := .store 9 (.tmp x) y, type := ty, pos := ps, after := af, guard := none } a w K Q := by
  obtain ⟨⟨q0, q1, q2, q3, q4, q5, q6, q7⟩, e0, e1, e2, e3, e4, e5, e6, e7⟩ := cells8' hc
  have ql := lt_of_block hc
  clear hc
  rcases y with t | v | t | t
  · simp only [Act.eval] at hy
    go_simp
    exact h
  · simp only [Act.eval] at hy
    subst hy
    go_simp
    exact h
  · simp [Act.eval] at hy
  · simp [Act.eval] at hy
theorem wpList_stF4 {w : World} {ops : Array Oper} {rest : List Oper} {a : Act} {Q : Exit → Act → World → Prop} {ps : String} {ty : TypeId} {af : Array Edge} (N x : Nat) (y : Operand) (k : ByteArray) (c0 c1 c2 c3 c4 c5 c6 c7 : Value)
    (hx : a.tmps[x]?.getD undef = .pointer (some ⟨N, 4, none⟩)) (hy : a.eval y = .string k) (hc : w.heap[N]? = some (.cells #[c0, c1, c2, c3, c4, c5, c6, c7] 29 (0, 0)))
    (h : ∀ W', Put1 N #[c0, c1, c2, c3, .string k, c5, c6, c7] 29 w W' → wpList Tryz.prog ops Q rest a W') :
    wpList Tryz.prog ops Q ({ dst := none, op := .store 9 (.tmp x) y, type := ty, pos := ps, after := af, guard := none } :: rest) a w :=
  wpList_plain rfl fun K hK => wp_stF4 _ _ _ _ _ _ _ N x y k c0 c1 c2 c3 c4 c5 c6 c7 hx hy hc (hK _ _ (h _ ⟨rfl, rfl, rfl, by simp [World.setCell], by
    have h0 := set_block (j := 4) (v := .string k) hc
    rw [show (#[c0, c1, c2, c3, c4, c5, c6, c7] : Array Value).setIfInBounds 4 (.string k) = #[c0, c1, c2, c3, .string k, c5, c6, c7] from rfl] at h0
    exact h0, fun k hk => Below.heap_setCell _ _ _ _ hk⟩))
theorem wp_stF5 (ps : String) (ty : TypeId) (af : Array Edge) (a : Act) (w : World) (K : Act → World → Prop) (Q : Exit → Act → World → Prop) (N x : Nat) (y : Operand) (k : ByteArray) (c0 c1 c2 c3 c4 c5 c6 c7 : Value)
    (hx : a.tmps[x]?.getD undef = .pointer (some ⟨N, 5, none⟩)) (hy : a.eval y = .string k) (hc : w.heap[N]? = some (.cells #[c0, c1, c2, c3, c4, c5, c6, c7] 29 (0, 0)))
    (h : K a (w.setCell ⟨N, 5, none⟩ (.string k))) :
    Oper.wp Tryz.prog { dst := none, op := .store 9 (.tmp x) y, type := ty, pos := ps, after := af, guard := none } a w K Q := by
  obtain ⟨⟨q0, q1, q2, q3, q4, q5, q6, q7⟩, e0, e1, e2, e3, e4, e5, e6, e7⟩ := cells8' hc
  have ql := lt_of_block hc
  clear hc
  rcases y with t | v | t | t
  · simp only [Act.eval] at hy
    go_simp
    exact h
  · simp only [Act.eval] at hy
    subst hy
    go_simp
    exact h
  · simp [Act.eval] at hy
  · simp [Act.eval] at hy
theorem wpList_stF5 {w : World} {ops : Array Oper} {rest : List Oper} {a : Act} {Q : Exit → Act → World → Prop} {ps : String} {ty : TypeId} {af : Array Edge} (N x : Nat) (y : Operand) (k : ByteArray) (c0 c1 c2 c3 c4 c5 c6 c7 : Value)
    (hx : a.tmps[x]?.getD undef = .pointer (some ⟨N, 5, none⟩)) (hy : a.eval y = .string k) (hc : w.heap[N]? = some (.cells #[c0, c1, c2, c3, c4, c5, c6, c7] 29 (0, 0)))
    (h : ∀ W', Put1 N #[c0, c1, c2, c3, c4, .string k, c6, c7] 29 w W' → wpList Tryz.prog ops Q rest a W') :
    wpList Tryz.prog ops Q ({ dst := none, op := .store 9 (.tmp x) y, type := ty, pos := ps, after := af, guard := none } :: rest) a w :=
  wpList_plain rfl fun K hK => wp_stF5 _ _ _ _ _ _ _ N x y k c0 c1 c2 c3 c4 c5 c6 c7 hx hy hc (hK _ _ (h _ ⟨rfl, rfl, rfl, by simp [World.setCell], by
    have h0 := set_block (j := 5) (v := .string k) hc
    rw [show (#[c0, c1, c2, c3, c4, c5, c6, c7] : Array Value).setIfInBounds 5 (.string k) = #[c0, c1, c2, c3, c4, .string k, c6, c7] from rfl] at h0
    exact h0, fun k hk => Below.heap_setCell _ _ _ _ hk⟩))
theorem wp_stF6 (ps : String) (ty : TypeId) (af : Array Edge) (a : Act) (w : World) (K : Act → World → Prop) (Q : Exit → Act → World → Prop) (N x : Nat) (y : Operand) (k : ByteArray) (c0 c1 c2 c3 c4 c5 c6 c7 : Value)
    (hx : a.tmps[x]?.getD undef = .pointer (some ⟨N, 6, none⟩)) (hy : a.eval y = .string k) (hc : w.heap[N]? = some (.cells #[c0, c1, c2, c3, c4, c5, c6, c7] 29 (0, 0)))
    (h : K a (w.setCell ⟨N, 6, none⟩ (.string k))) :
    Oper.wp Tryz.prog { dst := none, op := .store 9 (.tmp x) y, type := ty, pos := ps, after := af, guard := none } a w K Q := by
  obtain ⟨⟨q0, q1, q2, q3, q4, q5, q6, q7⟩, e0, e1, e2, e3, e4, e5, e6, e7⟩ := cells8' hc
  have ql := lt_of_block hc
  clear hc
  rcases y with t | v | t | t
  · simp only [Act.eval] at hy
    go_simp
    exact h
  · simp only [Act.eval] at hy
    subst hy
    go_simp
    exact h
  · simp [Act.eval] at hy
  · simp [Act.eval] at hy
theorem wpList_stF6 {w : World} {ops : Array Oper} {rest : List Oper} {a : Act} {Q : Exit → Act → World → Prop} {ps : String} {ty : TypeId} {af : Array Edge} (N x : Nat) (y : Operand) (k : ByteArray) (c0 c1 c2 c3 c4 c5 c6 c7 : Value)
    (hx : a.tmps[x]?.getD undef = .pointer (some ⟨N, 6, none⟩)) (hy : a.eval y = .string k) (hc : w.heap[N]? = some (.cells #[c0, c1, c2, c3, c4, c5, c6, c7] 29 (0, 0)))
    (h : ∀ W', Put1 N #[c0, c1, c2, c3, c4, c5, .string k, c7] 29 w W' → wpList Tryz.prog ops Q rest a W') :
    wpList Tryz.prog ops Q ({ dst := none, op := .store 9 (.tmp x) y, type := ty, pos := ps, after := af, guard := none } :: rest) a w :=
  wpList_plain rfl fun K hK => wp_stF6 _ _ _ _ _ _ _ N x y k c0 c1 c2 c3 c4 c5 c6 c7 hx hy hc (hK _ _ (h _ ⟨rfl, rfl, rfl, by simp [World.setCell], by
    have h0 := set_block (j := 6) (v := .string k) hc
    rw [show (#[c0, c1, c2, c3, c4, c5, c6, c7] : Array Value).setIfInBounds 6 (.string k) = #[c0, c1, c2, c3, c4, c5, .string k, c7] from rfl] at h0
    exact h0, fun k hk => Below.heap_setCell _ _ _ _ hk⟩))
theorem wp_stF7 (ps : String) (ty : TypeId) (af : Array Edge) (a : Act) (w : World) (K : Act → World → Prop) (Q : Exit → Act → World → Prop) (N x : Nat) (y : Operand) (kp : Option Addr) (kl kc : Nat) (c0 c1 c2 c3 c4 c5 c6 c7 : Value)
    (hx : a.tmps[x]?.getD undef = .pointer (some ⟨N, 7, none⟩)) (hy : a.eval y = .slice kp kl kc) (hc : w.heap[N]? = some (.cells #[c0, c1, c2, c3, c4, c5, c6, c7] 29 (0, 0)))
    (h : K a (w.setCell ⟨N, 7, none⟩ (.slice kp kl kc))) :
    Oper.wp Tryz.prog { dst := none, op := .store 27 (.tmp x) y, type := ty, pos := ps, after := af, guard := none } a w K Q := by
  obtain ⟨⟨q0, q1, q2, q3, q4, q5, q6, q7⟩, e0, e1, e2, e3, e4, e5, e6, e7⟩ := cells8' hc
  have ql := lt_of_block hc
  clear hc
  rcases y with t | v | t | t
  · simp only [Act.eval] at hy
    go_simp
    exact h
  · simp only [Act.eval] at hy
    subst hy
    go_simp
    exact h
  · simp [Act.eval] at hy
  · simp [Act.eval] at hy
theorem wpList_stF7 {w : World} {ops : Array Oper} {rest : List Oper} {a : Act} {Q : Exit → Act → World → Prop} {ps : String} {ty : TypeId} {af : Array Edge} (N x : Nat) (y : Operand) (kp : Option Addr) (kl kc : Nat) (c0 c1 c2 c3 c4 c5 c6 c7 : Value)
    (hx : a.tmps[x]?.getD undef = .pointer (some ⟨N, 7, none⟩)) (hy : a.eval y = .slice kp kl kc) (hc : w.heap[N]? = some (.cells #[c0, c1, c2, c3, c4, c5, c6, c7] 29 (0, 0)))
    (h : ∀ W', Put1 N #[c0, c1, c2, c3, c4, c5, c6, .slice kp kl kc] 29 w W' → wpList Tryz.prog ops Q rest a W') :
    wpList Tryz.prog ops Q ({ dst := none, op := .store 27 (.tmp x) y, type := ty, pos := ps, after := af, guard := none } :: rest) a w :=
  wpList_plain rfl fun K hK => wp_stF7 _ _ _ _ _ _ _ N x y kp kl kc c0 c1 c2 c3 c4 c5 c6 c7 hx hy hc (hK _ _ (h _ ⟨rfl, rfl, rfl, by simp [World.setCell], by
    have h0 := set_block (j := 7) (v := .slice kp kl kc) hc
    rw [show (#[c0, c1, c2, c3, c4, c5, c6, c7] : Array Value).setIfInBounds 7 (.slice kp kl kc) = #[c0, c1, c2, c3, c4, c5, c6, .slice kp kl kc] from rfl] at h0
    exact h0, fun k hk => Below.heap_setCell _ _ _ _ hk⟩))
end Parse
end Go.Proofs.YtadpjkehflokcaaGreatDoor
namespace Go.Proofs.YtadpjkehflokcaaGreatDoor
open Go.RowKit
set_option linter.unusedVariables false
set_option linter.unusedSimpArgs false
namespace Parse
open Term (Tm Hd TmIs Flat tcells veil Reads HdOk Kids)

theorem ownT_slice {w : World} {base e size n : Nat} {v : Value} {xs : List Value} (h : w.ownsRow base e size v n xs) : ∃ a c, v = .slice a n c ∧ c ≤ maxLen ∧ n ≤ c := by
  rcases h.2 with ⟨hv, h0⟩ | ⟨g, cap, _, hv, _, _, h1, h2, _⟩
  · subst h0; exact ⟨none, 0, hv, by unfold maxLen; omega, Nat.le_refl _⟩
  · exact ⟨_, cap, hv, h2, h1⟩
theorem ownT_at {w : World} {base e size n c : Nat} {a : Option Addr} {xs : List Value} (h : w.ownsRow base e size (.slice a n c) n xs) (hn : 0 < n) : ∃ g, a = some ⟨g, 0, none⟩ ∧ base ≤ g := by
  rcases h.2 with ⟨_, h0⟩ | ⟨g, cap, _, hv, hg, _⟩
  · omega
  · injection hv with hv; exact ⟨g, hv, hg⟩
theorem rowT_cell {w : World} {base e size n c g : Nat} {xs : List Value} (h : w.ownsRow base e size (.slice (some ⟨g, 0, none⟩) n c) n xs) {j : Nat} {u : Value} (hu : xs[j]? = some u) : w.cell? ⟨g, j, none⟩ = some u := by
  have := h.cells (g := g) rfl j u hu
  rw [Addr.add_lit] at this
  simpa using this
/-- From block B on, but the row's own. -/
def seenT (B : Nat) (v : Value) (i : Nat) : Bool := decide (B ≤ i ∧ v.ownBlock ≠ some i)
theorem seenT_iff {B : Nat} {v : Value} {i : Nat} : seenT B v i = true ↔ B ≤ i ∧ v.ownBlock ≠ some i := by unfold seenT; exact decide_eq_true_iff
/-- A row of types that grows: its cells, and its types' kids, which lie in none of these. -/
def RowM (B : Nat) (v : Value) (ts : List Tm) (W : World) : Prop := ∃ xs, W.ownsRow B 29 8 v ts.length xs ∧ Flat (veil (seenT B v) W) xs ts
theorem RowM.nil (B : Nat) (W : World) : RowM B (.slice none 0 0) [] W := ⟨[], World.ownsRow_nil _ _ _ _, rfl⟩
theorem ownT_below {W W' : World} {B n : Nat} {v : Value} {xs : List Value} (h : W.ownsRow B 29 8 v n xs) (hb : Below W.heap.size W W') : W'.ownsRow B 29 8 v n xs := by
  refine ⟨h.1, h.2.imp id ?_⟩
  rintro ⟨g, cap, cur, rfl, hg, hh, r⟩
  exact ⟨g, cap, cur, rfl, hg, (hb.block g (lt_of_block hh)).trans hh, r⟩
theorem RowM.below {B : Nat} {v : Value} {ts : List Tm} {W W' : World} (h : RowM B v ts W) (hb : Below W.heap.size W W') : RowM B v ts W' := by
  obtain ⟨xs, h1, h2⟩ := h
  exact ⟨xs, ownT_below h1 hb, h2.reads (Term.veil_to fun b hbl hp => ⟨hp, hb.block b hbl⟩)⟩
theorem RowM.slice {B : Nat} {v : Value} {ts : List Tm} {W : World} (h : RowM B v ts W) : ∃ a c, v = .slice a ts.length c ∧ c ≤ maxLen ∧ ts.length ≤ c := by
  obtain ⟨xs, h1, _⟩ := h; exact ownT_slice h1
/-- One type more. -/
theorem rowM_step {B M : Nat} {v v' : Value} {W W3 : World} {ts : List Tm} {xs : List Value} {t : Tm} {hd : Hd} {q : Option Addr} {l c : Nat}
    (ho : W.ownsRow B 29 8 v ts.length xs) (hf : Flat (veil (seenT B v) W) xs ts) (hT : TmIs (veil (fun i => decide (M ≤ i)) W) hd q l c t) (hM : B ≤ M) (hg : ∀ g, v.ownBlock = some g → g < M)
    (ho3 : W3.ownsRow B 29 8 v' (ts.length + 1) (xs ++ tcells hd q l c)) (hgr : W.grownBy W3 v.ownBlock) (hat : v'.ownBlock = v.ownBlock ∨ v'.ownBlock = some W.heap.size) : RowM B v' (ts ++ [t]) W3 := by
  refine ⟨xs ++ tcells hd q l c, by rw [List.length_append]; exact ho3, ?_⟩
  have key : ∀ b, b < W.heap.size → B ≤ b → v.ownBlock ≠ some b → seenT B v' b = true ∧ W3.heap[b]? = W.heap[b]? := fun b hb h1 h2 => by
    refine ⟨seenT_iff.2 ⟨h1, ?_⟩, hgr.block b hb (fun e => h2 e.symm)⟩
    rcases hat with e | e <;> rw [e]
    · exact h2
    · intro e2; injection e2 with e2; omega
  refine (hf.reads (Term.veil_to fun b hb hp => ?_)).append (Flat.one (hT.reads' (Term.veil_to fun b hb hp => ?_)))
  · obtain ⟨h1, h2⟩ := seenT_iff.1 hp
    exact key b hb h1 h2
  · have h1 : M ≤ b := of_decide_eq_true hp
    exact key b hb (by omega) (fun e => by have := hg b e; omega)
theorem RowM.kids {B : Nat} {a : Option Addr} {c : Nat} {ts : List Tm} {W : World} (h : RowM B (.slice a ts.length c) ts W) : Term.Kids (veil (fun i => decide (B ≤ i)) W) a ts := by
  obtain ⟨xs, h1, h2⟩ := h
  by_cases h0 : ts.length = 0
  · rw [List.length_eq_zero_iff.1 h0]; exact .nokids _
  · obtain ⟨g, rfl, hg⟩ := ownT_at h1 (by omega)
    have hin : Reads (veil (seenT B (.slice (some ⟨g, 0, none⟩) ts.length c)) W) (veil (fun i => decide (B ≤ i)) W) := Term.veil_to fun b hb hp => ⟨decide_eq_true (seenT_iff.1 hp).1, rfl⟩
    refine Term.kids_of_flat (fun j u hu => ?_) (h2.reads hin)
    have hc := rowT_cell h1 hu
    rw [World.cell?_of_block (Term.veil_at (decide_eq_true hg))]
    exact hc


/-- What is asked of the row, of an elder block on. -/
theorem RowM.weak {B B0 : Nat} {v : Value} {ts : List Tm} {W : World} (h : RowM B v ts W) (hB : B0 ≤ B) : RowM B0 v ts W := by
  obtain ⟨xs, h1, h2⟩ := h
  refine ⟨xs, ⟨h1.1, h1.2.imp id ?_⟩, h2.reads (Term.veil_to fun b hb hp => ?_)⟩
  · rintro ⟨g, cap, cur, e, hg, r⟩
    exact ⟨g, cap, cur, e, Nat.le_trans hB hg, r⟩
  · obtain ⟨h3, h4⟩ := seenT_iff.1 hp
    exact ⟨seenT_iff.2 ⟨Nat.le_trans hB h3, h4⟩, rfl⟩
/-- A row that a call has laid, from block B on, in the world A; W is later. -/
structure RowFr (B : Nat) (A : World) (v : Value) (ts : List Tm) (W : World) : Prop where
  row : RowM B v ts A
  off : ∀ b, B ≤ b → b < A.heap.size → W.heap[b]? = A.heap[b]?
  size : A.heap.size ≤ W.heap.size
theorem RowFr.new {B : Nat} {A : World} {v : Value} {ts : List Tm} (h : RowM B v ts A) : RowFr B A v ts A := ⟨h, fun _ _ _ => rfl, Nat.le_refl _⟩
theorem RowFr.call {B : Nat} {A : World} {v : Value} {ts : List Tm} {W W' : World} (k : RowFr B A v ts W) (hb : Below W.heap.size W W') : RowFr B A v ts W' :=
  ⟨k.row, fun b h1 h2 => (hb.block b (Nat.lt_of_lt_of_le h2 k.size)).trans (k.off b h1 h2), Nat.le_trans k.size hb.size⟩
theorem RowFr.put {B : Nat} {A : World} {v : Value} {ts : List Tm} {W W' : World} {N : Nat} {cs : Array Value} {ty : TypeId} (k : RowFr B A v ts W) (hp : Put1 N cs ty W W') (hN : N < B ∨ A.heap.size ≤ N) : RowFr B A v ts W' :=
  ⟨k.row, fun b h1 h2 => (hp.off b (by omega)).trans (k.off b h1 h2), by rw [hp.size]; exact k.size⟩
theorem RowFr.now {B : Nat} {A : World} {v : Value} {ts : List Tm} {W : World} (k : RowFr B A v ts W) : RowM B v ts W := by
  obtain ⟨xs, h1, h2⟩ := k.row
  refine ⟨xs, ⟨h1.1, h1.2.imp id ?_⟩, h2.reads (Term.veil_to fun b hb hp => ⟨hp, k.off b (seenT_iff.1 hp).1 hb⟩)⟩
  rintro ⟨g, cap, cur, rfl, hg, hh, r⟩
  exact ⟨g, cap, cur, rfl, hg, (k.off g hg (lt_of_block hh)).trans hh, r⟩
end Parse
end Go.Proofs.YtadpjkehflokcaaGreatDoor
namespace Go.Proofs.YtadpjkehflokcaaGreatDoor
open Go.RowKit
set_option linter.unusedVariables false
set_option linter.unusedSimpArgs false
namespace Parse
open Token (Tok tel ToksAt)
open Term (Tm Hd TmIs Flat tcells veil Reads HdOk Kids)
open Words (str_no str_yes)

set_option maxRecDepth 100000 in
set_option maxHeartbeats 51200000 in
theorem unary_pre (g n c : Nat) (ts : List Tok) (m : Nat) (hU : ∀ k, k ≤ m → DPart 117 (unaryF ts k) g n c ts) (hE : ∀ k, k ≤ m → DPart 24 (exprF ts k) g n c ts) (w : World) (i : Nat) (R : St × Tm) (hR : RowAt w g n c ts) (hs : i < n) (hx : preN (textOf ts i) < 4) (hF : unaryF ts (m + 1) ⟨i, false⟩ = some R) :
    Calls Tryz.prog 117 #[.agg #[.slice (some ⟨g, 0, none⟩) n c, .int .i64 (i : Int), .bool false]] w (DEnd g n c R w) := by
  have hF' : (unaryF ts m ⟨i + 1, false⟩).map (fun r => (r.1, node (4 + preN (textOf ts i)) (plA ts i) [r.2])) = some R := by
    have e : unaryF ts (m + 1) ⟨i, false⟩ = (unaryF ts m ⟨i + 1, false⟩).map (fun r => (r.1, node (4 + preN (textOf ts i)) (plA ts i) [r.2])) := by
      rw [unaryF]
      simp only [Bool.false_eq_true, if_false]
      rw [if_pos hx]
    rw [← e]; exact hF
  obtain ⟨r, hr, rfl⟩ := Option.map_eq_some_iff.1 hF'
  have hnx : i + 1 < n := row_text hR hs (by intro e; rw [e] at hx; exact absurd hx (by decide +kernel))
  obtain ⟨i5, hi5⟩ : ∃ i5 : Nat, i5 = i + 1 := ⟨_, rfl⟩
  have he5 : (i : Int) + 1 = (i5 : Int) := by omega
  have HE5 := Lib.hid he5
  rw [← hi5] at hnx hr
  have hrl : r.1.i < n := by
    have := (lt_all ts hR.row m).2.2.2.2.2.2 ⟨i5, false⟩ r (by rw [hR.len]; exact hnx) hr
    rw [hR.len] at this; exact this
  have HNX := Lib.hid hnx; have HR0 := Lib.hid hr; have HRL := Lib.hid hrl
  have hpa : plA ts i = ((tel ts i).a : Int) := rfl
  clear hnx hr hrl hi5 he5 hF'
  have hps := ps_new w g n c ⟨i, false⟩ hs
  obtain ⟨t0, t1, t2⟩ := hR.toks i (by rw [hR.len]; exact hs)
  have hgl := World.block_lt_of_cell? w _ t0
  simp only at hgl
  have hi1 : (i : Int) < (n : Int) := by omega
  have hi0 : (0 : Int) ≤ (i : Int) := by omega
  have hi2 : (i : Int) ≤ 70000 := by have := hR.small; omega
  have hpl : -9223372036854775808 ≤ ((tel ts i).a : Int) ∧ ((tel ts i).a : Int) ≤ 9223372036854775807 := by have := hR.places i hs; omega
  obtain ⟨s0, s1, s2⟩ := (hR.below hps.below).toks i (by rw [hR.len]; exact hs)
  clear t0 t1 t2
  have hrow := fun W (hb : Below w.heap.size w W) => hR.below hb
  have htk : ∀ O, ((((w.alloc (.cells #[.slice (some ⟨g, 0, none⟩) n c, .int .i64 (i : Int), .bool false] 56)).alloc (.cells #[.slice none 0 0, .int .i64 0, .bool false] 56)).alloc (.cells #[.int .u8 0, .int .u8 0, .int .i64 0, .int .i64 0, .string ⟨#[]⟩, .string ⟨#[]⟩, .string ⟨#[]⟩, .slice none 0 0] 29)).alloc O).heap[w.heap.size + 1 + 1 + 1]? = some O := fun O => by
    have := heap_alloc_new (((w.alloc (.cells #[.slice (some ⟨g, 0, none⟩) n c, .int .i64 (i : Int), .bool false] 56)).alloc (.cells #[.slice none 0 0, .int .i64 0, .bool false] 56)).alloc (.cells #[.int .u8 0, .int .u8 0, .int .i64 0, .int .i64 0, .string ⟨#[]⟩, .string ⟨#[]⟩, .string ⟨#[]⟩, .slice none 0 0] 29)) O
    rwa [show (((w.alloc (.cells #[.slice (some ⟨g, 0, none⟩) n c, .int .i64 (i : Int), .bool false] 56)).alloc (.cells #[.slice none 0 0, .int .i64 0, .bool false] 56)).alloc (.cells #[.int .u8 0, .int .u8 0, .int .i64 0, .int .i64 0, .string ⟨#[]⟩, .string ⟨#[]⟩, .string ⟨#[]⟩, .slice none 0 0] 29)).heap.size = w.heap.size + 1 + 1 + 1 from by simp] at this
  have htx := text_walk ((((w.alloc (.cells #[.slice (some ⟨g, 0, none⟩) n c, .int .i64 (i : Int), .bool false] 56)).alloc (.cells #[.slice none 0 0, .int .i64 0, .bool false] 56)).alloc (.cells #[.int .u8 0, .int .u8 0, .int .i64 0, .int .i64 0, .string ⟨#[]⟩, .string ⟨#[]⟩, .string ⟨#[]⟩, .slice none 0 0] 29)).alloc (.cells #[.int .u8 (tel ts i).k, .string (tel ts i).s, .int .i64 ((tel ts i).a : Int)] 46)) g n c ts i false (hR.below (hps.call (al_new _)).below) hs
  have HPS := Lib.hid (hps.call (al_new (.cells #[.int .u8 (tel ts i).k, .string (tel ts i).s, .int .i64 ((tel ts i).a : Int)] 46))); have HTK := Lib.hid (htk (.cells #[.int .u8 (tel ts i).k, .string (tel ts i).s, .int .i64 ((tel ts i).a : Int)] 46)); have HTX := Lib.hid htx; have HROW := Lib.hid hrow; have HU := Lib.hid hU; have HE := Lib.hid hE; have HR := Lib.hid hR; have HPL := Lib.hid hpl
  clear hps htk htx hrow hU hE hR hF hpl
  go_enter Tryz.func117, Tryz.ntmps117
  go_wp2_with (fail)
  refine HTX.out.mono ?_
  rintro e w2 ⟨rfl, hb2⟩
  have HPS2 := Lib.hid ((HPS.out.call hb2).call (al_new (.cells #[.string ⟨#[102, 115, 116]⟩, .string ⟨#[115, 110, 100]⟩, .string ⟨#[114, 101, 102]⟩, .string ⟨#[33]⟩] 9)))
  have HTK2 := Lib.hid (bx_call (bx_call HTK.out hb2) (al_new (.cells #[.string ⟨#[102, 115, 116]⟩, .string ⟨#[115, 110, 100]⟩, .string ⟨#[114, 101, 102]⟩, .string ⟨#[33]⟩] 9)))
  have hks : ∀ j, j < 4 → (w2.alloc (.cells #[.string ⟨#[102, 115, 116]⟩, .string ⟨#[115, 110, 100]⟩, .string ⟨#[114, 101, 102]⟩, .string ⟨#[33]⟩] 9)).cell? ⟨w2.heap.size, j, none⟩ = some (.string (Words.sel [wFst, wSnd, wRef, wGet] j)) := fun j hj => by
    have h1 := heap_alloc_new w2 (.cells #[.string ⟨#[102, 115, 116]⟩, .string ⟨#[115, 110, 100]⟩, .string ⟨#[114, 101, 102]⟩, .string ⟨#[33]⟩] 9)
    have : j = 0 ∨ j = 1 ∨ j = 2 ∨ j = 3 := by omega
    rcases this with rfl | rfl | rfl | rfl <;> (unfold World.cell?; rw [h1]; rfl)
  have HKS := Lib.hid hks
  clear hb2 HPS HTK HTX hks s0 s1 s2 hgl
  generalize hxx : textOf ts i = x at *
  have HX := Lib.hid hxx
  clear hxx
  go_wp2_with (fail)
  generalize w2.alloc (.cells #[.string ⟨#[102, 115, 116]⟩, .string ⟨#[115, 110, 100]⟩, .string ⟨#[114, 101, 102]⟩, .string ⟨#[33]⟩] 9) = w5 at *
  generalize w2.heap.size = KB at *
  go_loopw [7, 33] (fun _ i' wr => ∃ j : Nat, j ≤ 4 ∧ i' = .int .i64 j ∧ (∀ k, k < j → Words.sel [wFst, wSnd, wRef, wGet] k ≠ x) ∧ wr = w5) (fun _ i' _ => 4 - (intOf i').toNat)
  case atStart => exact ⟨0, Nat.zero_le _, rfl, fun k hk => by omega, rfl⟩
  case round =>
    obtain ⟨j, hj, rfl, hall, rfl⟩ := hrel
    have HALL := Lib.hid hall
    clear hall
    by_cases hlt : j < 4
    · have kc := HKS.out j hlt
      by_cases hxj : Words.sel [wFst, wSnd, wRef, wGet] j = x
      · have hpre := preN_hit x j hlt hxj
        have exj : ((Words.sel [wFst, wSnd, wRef, wGet] j).toList == x.toList) = true := str_yes hxj
        have HPRE := Lib.hid hpre
        clear hpre hxj
        generalize Words.sel [wFst, wSnd, wRef, wGet] j = kj at *
        obtain ⟨⟨x0, x1, x2⟩, y0, y1, y2⟩ := cellsS HPS2.out.b1
        obtain ⟨⟨k0, k1, k2⟩, -⟩ := cellsS HTK2.out
        go_wp2_with ((refine wpList_stI w.heap.size 45 44 ((i : Int) + 1) _ _ _ rfl rfl HPS2.out.b1 ?_; intro w6 pi; rw [HE5.out] at pi; have HPS6 := Lib.hid (HPS2.out.state (s' := ⟨i5, false⟩) pi HNX.out); have HTK6 := Lib.hid (bx_put HTK2.out pi (by omega)); clear pi x0 x1 x2 y0 y1 y2 k0 k1 k2; obtain ⟨⟨x0, x1, x2⟩, y0, y1, y2⟩ := cellsS HPS6.out.b1))
        refine (HU.out m (Nat.le_refl _) w6 ⟨i5, false⟩ r (HROW.out w6 HPS6.out.below) HNX.out HR0.out).mono ?_
        rintro e w7 ⟨h, q, l, d, rfl, hT, hb7⟩
        clear x0 x1 x2 y0 y1 y2
        have hz5 : ((w7.alloc (.cells #[.slice (some ⟨g, 0, none⟩) n c, .int .i64 r.1.i, .bool r.1.bad] 56)).alloc (.cells #[.int .u8 h.k, .int .u8 h.op, .int .i64 h.pl, .int .i64 h.n, .string h.name, .string h.arg, .string h.exn, .slice q l d] 29)).heap[w7.heap.size]? = some (.cells #[.slice (some ⟨g, 0, none⟩) n c, .int .i64 r.1.i, .bool r.1.bad] 56 (0, 0)) := bx_call (heap_alloc_new w7 _) (al_new _)
        have hz6 : ((w7.alloc (.cells #[.slice (some ⟨g, 0, none⟩) n c, .int .i64 r.1.i, .bool r.1.bad] 56)).alloc (.cells #[.int .u8 h.k, .int .u8 h.op, .int .i64 h.pl, .int .i64 h.n, .string h.name, .string h.arg, .string h.exn, .slice q l d] 29)).heap[w7.heap.size + 1]? = some (.cells #[.int .u8 h.k, .int .u8 h.op, .int .i64 h.pl, .int .i64 h.n, .string h.name, .string h.arg, .string h.exn, .slice q l d] 29 (0, 0)) := by rw [← show (w7.alloc (.cells #[.slice (some ⟨g, 0, none⟩) n c, .int .i64 r.1.i, .bool r.1.bad] 56)).heap.size = w7.heap.size + 1 from by simp]; exact heap_alloc_new _ _
        have HB9 := Lib.hid hz5; have HC9 := Lib.hid hz6
        clear hz5 hz6
        have HPS9 := Lib.hid ((HPS6.out.call hb7).call ((al_new (W := w7) (.cells #[.slice (some ⟨g, 0, none⟩) n c, .int .i64 r.1.i, .bool r.1.bad] 56)).trans ((al_new (.cells #[.int .u8 h.k, .int .u8 h.op, .int .i64 h.pl, .int .i64 h.n, .string h.name, .string h.arg, .string h.exn, .slice q l d] 29)).mono (al_new (W := w7) (.cells #[.slice (some ⟨g, 0, none⟩) n c, .int .i64 r.1.i, .bool r.1.bad] 56)).size)))
        have HTK9 := Lib.hid (bx_call (bx_call HTK6.out hb7) ((al_new (W := w7) (.cells #[.slice (some ⟨g, 0, none⟩) n c, .int .i64 r.1.i, .bool r.1.bad] 56)).trans ((al_new (.cells #[.int .u8 h.k, .int .u8 h.op, .int .i64 h.pl, .int .i64 h.n, .string h.name, .string h.arg, .string h.exn, .slice q l d] 29)).mono (al_new (W := w7) (.cells #[.slice (some ⟨g, 0, none⟩) n c, .int .i64 r.1.i, .bool r.1.bad] 56)).size)))
        have HTF9 := Lib.hid ((TmFr.new hT).call ((al_new (W := w7) (.cells #[.slice (some ⟨g, 0, none⟩) n c, .int .i64 r.1.i, .bool r.1.bad] 56)).trans ((al_new (.cells #[.int .u8 h.k, .int .u8 h.op, .int .i64 h.pl, .int .i64 h.n, .string h.name, .string h.arg, .string h.exn, .slice q l d] 29)).mono (al_new (W := w7) (.cells #[.slice (some ⟨g, 0, none⟩) n c, .int .i64 r.1.i, .bool r.1.bad] 56)).size)))
        have hsz6 := lt_of_block HTK6.out
        have hsz7 : w6.heap.size ≤ w7.heap.size := hb7.size
        clear hT hb7
        go_wp2_with (fail)
        generalize ((w7.alloc (.cells #[.slice (some ⟨g, 0, none⟩) n c, .int .i64 r.1.i, .bool r.1.bad] 56)).alloc (.cells #[.int .u8 h.k, .int .u8 h.op, .int .i64 h.pl, .int .i64 h.n, .string h.name, .string h.arg, .string h.exn, .slice q l d] 29)) = w9 at *
        have hini := EndV.of_ps HPS9.out
        refine wp_region_held_drew (S := fun V => EndV w w9 V) (by kernel_rfl) hini (fun hHeld => ?_)
        have HE0 := Lib.hid hini
        clear hini
        generalize w9.drew = v0 at *
        refine wpAnyH_take (i := 0) (v := .agg #[.slice (some ⟨g, 0, none⟩) n c, .int .i64 r.1.i, .bool r.1.bad]) rfl (by kernel_rfl) (by kernel_rfl) (by kernel_rfl) (fun _ _ _ h => h) (Or.inl ⟨by rfl, ?_⟩) (by assumption) ?_
        · intro w' hSw
          obtain ⟨⟨g0, g1, g2⟩, d0, d1, d2⟩ := cellsS ((hSw.off _ (lt_of_block HB9.out) (by omega) (by omega)).trans HB9.out)
          first | (go_simp; done) | rfl | (go_simp; first | exact IntWalk.i64_in _ (by omega) | exact IntWalk.u8_in _ (by omega))
        try simp only [Act.put, List.getElem_toArray, List.getElem_cons_succ, List.getElem_cons_zero, List.setIfInBounds_toArray, List.set_cons_zero, List.set_cons_succ]
        refine wpAnyH_take (i := 1) (v := .int .i64 j) rfl (by kernel_rfl) (by kernel_rfl) (by kernel_rfl) (fun _ _ _ h => h) (Or.inl ⟨by rfl, ?_⟩) (by assumption) ?_
        · intro w' hSw
          first | (go_simp; done) | rfl | (go_simp; first | exact IntWalk.i64_in _ (by omega) | exact IntWalk.u8_in _ (by omega))
        try simp only [Act.put, List.getElem_toArray, List.getElem_cons_succ, List.getElem_cons_zero, List.setIfInBounds_toArray, List.set_cons_zero, List.set_cons_succ]
        refine wpAnyH_take (i := 2) (v := .int .i64 (4 + (j : Int))) rfl (by kernel_rfl) (by kernel_rfl) (by kernel_rfl) (fun _ _ _ h => h) (Or.inl ⟨by rfl, ?_⟩) (by assumption) ?_
        · intro w' hSw
          first | (go_simp; done) | rfl | (go_simp; first | exact IntWalk.i64_in _ (by omega) | exact IntWalk.u8_in _ (by omega))
        try simp only [Act.put, List.getElem_toArray, List.getElem_cons_succ, List.getElem_cons_zero, List.setIfInBounds_toArray, List.set_cons_zero, List.set_cons_succ]
        refine wpAnyH_take (i := 3) (v := .int .u8 (4 + (j : Int))) rfl (by kernel_rfl) (by kernel_rfl) (by kernel_rfl) (fun _ _ _ h => h) (Or.inl ⟨by rfl, ?_⟩) (by assumption) ?_
        · intro w' hSw
          first | (go_simp; done) | rfl | (go_simp; first | exact IntWalk.i64_in _ (by omega) | exact IntWalk.u8_in _ (by omega))
        try simp only [Act.put, List.getElem_toArray, List.getElem_cons_succ, List.getElem_cons_zero, List.setIfInBounds_toArray, List.set_cons_zero, List.set_cons_succ]
        refine wpAnyH_take (i := 4) (v := .pointer (some ⟨w.heap.size + 1 + 1 + 1, 2, none⟩)) rfl (by kernel_rfl) (by kernel_rfl) (by kernel_rfl) (fun _ _ _ h => h) (Or.inl ⟨by rfl, ?_⟩) (by assumption) ?_
        · intro w' hSw
          first | (go_simp; done) | rfl | (go_simp; first | exact IntWalk.i64_in _ (by omega) | exact IntWalk.u8_in _ (by omega))
        try simp only [Act.put, List.getElem_toArray, List.getElem_cons_succ, List.getElem_cons_zero, List.setIfInBounds_toArray, List.set_cons_zero, List.set_cons_succ]
        refine wpAnyH_take (i := 5) (v := .int .i64 ((tel ts i).a : Int)) rfl (by kernel_rfl) (by kernel_rfl) (by kernel_rfl) (fun _ _ _ h => h) (Or.inl ⟨by rfl, ?_⟩) (by assumption) ?_
        · intro w' hSw
          obtain ⟨⟨g0, g1, g2⟩, d0, d1, d2⟩ := cellsS ((hSw.off _ (lt_of_block HTK9.out) (by omega) (by omega)).trans HTK9.out)
          first | (go_simp; done) | rfl | (go_simp; first | exact IntWalk.i64_in _ (by omega) | exact IntWalk.u8_in _ (by omega))
        try simp only [Act.put, List.getElem_toArray, List.getElem_cons_succ, List.getElem_cons_zero, List.setIfInBounds_toArray, List.set_cons_zero, List.set_cons_succ]
        refine wpAnyH_take (i := 6) (v := .agg #[.int .u8 h.k, .int .u8 h.op, .int .i64 h.pl, .int .i64 h.n, .string h.name, .string h.arg, .string h.exn, .slice q l d]) rfl (by kernel_rfl) (by kernel_rfl) (by kernel_rfl) (fun _ _ _ h => h) (Or.inl ⟨by rfl, ?_⟩) (by assumption) ?_
        · intro w' hSw
          obtain ⟨⟨g0, g1, g2, g3, g4, g5, g6, g7⟩, d0, d1, d2, d3, d4, d5, d6, d7⟩ := cells8' ((hSw.off _ (lt_of_block HC9.out) (by omega) (by omega)).trans HC9.out)
          first | (go_simp; done) | rfl | (go_simp; first | exact IntWalk.i64_in _ (by omega) | exact IntWalk.u8_in _ (by omega))
        try simp only [Act.put, List.getElem_toArray, List.getElem_cons_succ, List.getElem_cons_zero, List.setIfInBounds_toArray, List.set_cons_zero, List.set_cons_succ]
        refine wpAnyH_ready (rs := [7]) (by kernel_rfl) (by simp) ?_
        refine AllReadyH.cons rfl (fun K hK => ?_) AllReadyH.nil
        have HK2 := Lib.hid hK
        clear hK
        go_simp
        have HE1 := Lib.hid (HE0.out.call (al_new (W := v0) (.cells #[.int .u8 h.k, .int .u8 h.op, .int .i64 h.pl, .int .i64 h.n, .string h.name, .string h.arg, .string h.exn, .slice q l d] 29)))
        have hx1 := heap_alloc_new v0 (.cells #[.int .u8 h.k, .int .u8 h.op, .int .i64 h.pl, .int .i64 h.n, .string h.name, .string h.arg, .string h.exn, .slice q l d] 29)
        have HX1 := Lib.hid hx1
        clear hx1
        refine HK2.out _ _ HE1.out (fun hHeld => ?_)
        generalize v0.alloc (.cells #[.int .u8 h.k, .int .u8 h.op, .int .i64 h.pl, .int .i64 h.n, .string h.name, .string h.arg, .string h.exn, .slice q l d] 29) = v1 at *
        clear HK2 hHeld
        try simp only [Act.put, List.getElem_toArray, List.getElem_cons_succ, List.getElem_cons_zero, List.setIfInBounds_toArray, List.set_cons_zero, List.set_cons_succ]
        clear K
        refine wpAnyH_ready (rs := [8]) (by kernel_rfl) (by simp) ?_
        refine AllReadyH.cons rfl (fun K hK => ?_) AllReadyH.nil
        have HK2 := Lib.hid hK
        clear hK
        go_simp
        refine (term_walk _ (4 + (j : Int)) ((tel ts i).a : Int) (some ⟨v0.heap.size, 0, none⟩) 1 1).mono ?_
        rintro e v2 ⟨rfl, hb2⟩
        have HE2 := Lib.hid (HE1.out.call hb2)
        have HX1c2 := Lib.hid (bx_call HX1.out hb2)
        clear hb2
        refine HK2.out _ _ HE2.out (fun hHeld => ?_)
        clear HK2 hHeld
        try simp only [Act.put, List.getElem_toArray, List.getElem_cons_succ, List.getElem_cons_zero, List.setIfInBounds_toArray, List.set_cons_zero, List.set_cons_succ]
        clear K
        refine wpAnyH_ready (rs := [9]) (by kernel_rfl) (by simp) ?_
        refine AllReadyH.cons rfl (fun K hK => ?_) AllReadyH.nil
        have HK2 := Lib.hid hK
        clear hK
        try rw [if_pos (by rfl)]
        obtain ⟨x1, x2, x3, hx2⟩ := HE2.out.s2
        refine wp_stS _ _ _ _ _ _ _ (w.heap.size + 1) _ _ (some ⟨g, 0, none⟩) n c r.1.i r.1.bad x1 x2 x3 rfl rfl hx2 (fun va pa => ?_)
        clear hx2
        have HEa := Lib.hid (HE2.out.two pa)
        have PA := Lib.hid pa
        clear pa
        refine HK2.out _ _ HEa.out (fun hHeld => ?_)
        clear HK2
        try simp only [Act.put, List.getElem_toArray, List.getElem_cons_succ, List.getElem_cons_zero, List.setIfInBounds_toArray, List.set_cons_zero, List.set_cons_succ]
        clear K
        refine wpAnyH_ready (rs := [10]) (by kernel_rfl) (by simp) ?_
        refine AllReadyH.cons rfl (fun K hK => ?_) AllReadyH.nil
        have HK2 := Lib.hid hK
        clear hK
        try rw [if_pos (by rfl)]
        obtain ⟨y1, y2, y3, y4, y5, y6, y7, y8, hy3⟩ := HEa.out.s3
        refine wp_stT _ _ _ _ _ _ _ (w.heap.size + 1 + 1) _ _ (4 + (j : Int)) 0 ((tel ts i).a : Int) 0 ⟨#[]⟩ ⟨#[]⟩ ⟨#[]⟩ (some ⟨v0.heap.size, 0, none⟩) 1 1 y1 y2 y3 y4 y5 y6 y7 y8 rfl rfl hy3 (fun vb pb => ?_)
        clear hy3
        have HEb := Lib.hid (HEa.out.three pb)
        have PB := Lib.hid pb
        clear pb
        refine HK2.out _ _ HEb.out (fun hHeld => ?_)
        clear HK2
        try simp only [Act.put, List.getElem_toArray, List.getElem_cons_succ, List.getElem_cons_zero, List.setIfInBounds_toArray, List.set_cons_zero, List.set_cons_succ]
        clear K
        refine wpAnyH_done (by kernel_rfl) ?_ _
        clear hHeld
        have HX1c2f := Lib.hid (bx_put (bx_put HX1c2.out PA.out (by have := HPS9.out.size; have h0 := HE0.out.size; omega)) PB.out (by have := HPS9.out.size; have h0 := HE0.out.size; omega))
        have htm := (show TmIs _ _ _ _ _ (node (4 + preN x) (plA ts i) [r.2]) from by rw [HPRE.out]; exact node1 (HTF9.out.fin (by omega) HEb.out) (by have := HE0.out.below.size; omega) HX1c2f.out (hd_unary (by omega) HPL.out))
        have hr2 := (PB.out.off (w.heap.size + 1) (by omega)).trans PA.out.here
        have hr3 := PB.out.here
        obtain ⟨⟨r0, r1, r2⟩, d0, d1, d2⟩ := cellsS hr2
        obtain ⟨⟨g0, g1, g2, g3, g4, g5, g6, g7⟩, e0, e1, e2, e3, e4, e5, e6, e7⟩ := cells8' hr3
        have rl2 := lt_of_block hr2
        have rl3 := lt_of_block hr3
        have HTM := Lib.hid htm
        clear htm hr2 hr3
        go_wp2_with (fail)
        refine bodyPost_ret (v := .tuple #[.agg #[.slice (some ⟨g, 0, none⟩) n c, .int .i64 r.1.i, .bool r.1.bad], .agg #[.int .u8 (4 + (j : Int)), .int .u8 0, .int .i64 ((tel ts i).a : Int), .int .i64 0, .string ⟨#[]⟩, .string ⟨#[]⟩, .string ⟨#[]⟩, .slice (some ⟨v0.heap.size, 0, none⟩) 1 1]]) (by simp [results, Tryz.results117, go_sem, r0, r1, r2, g0, g1, g2, g3, g4, g5, g6, g7, rl2, rl3]) rfl ⟨⟨4 + (j : Int), 0, ((tel ts i).a : Int), 0, ⟨#[]⟩, ⟨#[]⟩, ⟨#[]⟩⟩, some ⟨v0.heap.size, 0, none⟩, 1, 1, rfl, HTM.out, HEb.out.below⟩
      · have exj : ((Words.sel [wFst, wSnd, wRef, wGet] j).toList == x.toList) = false := str_no hxj
        have hall2 : ∀ k, k < j + 1 → Words.sel [wFst, wSnd, wRef, wGet] k ≠ x := fun k hk => by
          rcases Nat.lt_or_ge k j with h | h
          · exact HALL.out k h
          · rw [show k = j from by omega]; exact hxj
        have HALL2 := Lib.hid hall2
        clear hall2 hxj
        generalize hkj : Words.sel [wFst, wSnd, wRef, wGet] j = kj at *
        clear hkj
        go_wp2_with (fail)
        go_roundw
        case rel => exact ⟨j + 1, by omega, by go_num, HALL2.out, trivial⟩
        case measure => simp [intOf]; omega
    · obtain rfl : j = 4 := by omega
      have hpre := preN_miss x HALL.out
      have HPRE := Lib.hid hpre
      clear hpre
      exact absurd hx (by rw [HPRE.out]; decide)
end Parse
end Go.Proofs.YtadpjkehflokcaaGreatDoor
