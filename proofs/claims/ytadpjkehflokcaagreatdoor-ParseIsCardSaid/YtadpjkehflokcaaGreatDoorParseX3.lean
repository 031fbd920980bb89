/- The document's Parse: a program. (Written by wip/tools/dparse.py.) -/
import Derived.Test.YtadpjkehflokcaaGreatDoorGParseX
import Derived.Test.YtadpjkehflokcaaGreatDoorGParseR
import Derived.Test.YtadpjkehflokcaaGreatDoorParseX2
import Derived.Test.YtadpjkehflokcaaGreatDoorGProgB
import Derived.Test.YtadpjkehflokcaaGreatDoorGProgA
namespace Go.Proofs.YtadpjkehflokcaaGreatDoor
open Go.RowKit
set_option linter.unusedVariables false
set_option linter.unusedSimpArgs false
namespace Parse
open Token (Tok tel ToksAt BytesIn lex endT tcells tcell infoTok three_new own_below tcells_snoc)
open Term (Tm Hd TmIs Flat veil Reads HdOk Kids)

theorem os_set (w : World) (a : Addr) (u : Value) : (w.setCell a u).os = w.os := rfl
theorem tape_set (w : World) (a : Addr) (u : Value) : (w.setCell a u).tape = w.tape := rfl
theorem output_set (w : World) (a : Addr) (u : Value) : (w.setCell a u).output = w.output := rfl
theorem put9 {W : World} {N : Nat} {c0 c1 c2 c3 c4 c5 c6 c7 c8 a b c d e f g h i : Value} {ty : TypeId} (hN : W.heap[N]? = some (.cells #[c0, c1, c2, c3, c4, c5, c6, c7, c8] ty (0, 0))) :
    Put1 N #[a, b, c, d, e, f, g, h, i] ty W (((((((((W.setCell ⟨N, 0, none⟩ a).setCell ⟨N, 1, none⟩ b).setCell ⟨N, 2, none⟩ c).setCell ⟨N, 3, none⟩ d).setCell ⟨N, 4, none⟩ e).setCell ⟨N, 5, none⟩ f).setCell ⟨N, 6, none⟩ g).setCell ⟨N, 7, none⟩ h).setCell ⟨N, 8, none⟩ i) :=
  ⟨by simp only [os_set], by simp only [tape_set], by simp only [output_set], set9_size _ _ _ _ _ _ _ _ _ _ _, set9_block hN, fun k hk => set9_other _ _ _ _ _ _ _ _ _ _ _ k hk⟩
theorem wp_stP (ps : String) (ty : TypeId) (af : Array Edge) (a : Act) (w : World) (K : Act → World → Prop) (Q : Exit → Act → World → Prop) (N x y : Nat) (q0 : Option Addr) (m0 e0 : Nat) (k op pl nn : Int) (nm ar ex : ByteArray) (p : Option Addr) (l d : Nat) (c0 c1 c2 c3 c4 c5 c6 c7 c8 : Value)
    (hx : a.tmps[x]?.getD undef = .pointer (some ⟨N, 0, none⟩)) (hy : a.tmps[y]?.getD undef = .agg #[.slice q0 m0 e0, .int .u8 k, .int .u8 op, .int .i64 pl, .int .i64 nn, .string nm, .string ar, .string ex, .slice p l d]) (hc : w.heap[N]? = some (.cells #[c0, c1, c2, c3, c4, c5, c6, c7, c8] 31 (0, 0)))
    (h : ∀ W', Put1 N #[.slice q0 m0 e0, .int .u8 k, .int .u8 op, .int .i64 pl, .int .i64 nn, .string nm, .string ar, .string ex, .slice p l d] 31 w W' → K a W') :
    Oper.wp Tryz.prog { dst := none, op := .store 31 (.tmp x) (.tmp y), type := ty, pos := ps, after := af, guard := none } a w K Q :=
  wp_store9 _ _ _ _ _ _ _ N x y q0 m0 e0 k op pl nn nm ar ex p l d c0 c1 c2 c3 c4 c5 c6 c7 c8 hx hy hc (h _ (put9 hc))
theorem wpList_stP {w : World} {ops : Array Oper} {rest : List Oper} {a : Act} {Q : Exit → Act → World → Prop} {ps : String} {ty : TypeId} {af : Array Edge} (N x y : Nat) (q0 : Option Addr) (m0 e0 : Nat) (k op pl nn : Int) (nm ar ex : ByteArray) (p : Option Addr) (l d : Nat) (c0 c1 c2 c3 c4 c5 c6 c7 c8 : Value)
    (hx : a.tmps[x]?.getD undef = .pointer (some ⟨N, 0, none⟩)) (hy : a.tmps[y]?.getD undef = .agg #[.slice q0 m0 e0, .int .u8 k, .int .u8 op, .int .i64 pl, .int .i64 nn, .string nm, .string ar, .string ex, .slice p l d]) (hc : w.heap[N]? = some (.cells #[c0, c1, c2, c3, c4, c5, c6, c7, c8] 31 (0, 0)))
    (h : ∀ W', Put1 N #[.slice q0 m0 e0, .int .u8 k, .int .u8 op, .int .i64 pl, .int .i64 nn, .string nm, .string ar, .string ex, .slice p l d] 31 w W' → wpList Tryz.prog ops Q rest a W') :
    wpList Tryz.prog ops Q ({ dst := none, op := .store 31 (.tmp x) (.tmp y), type := ty, pos := ps, after := af, guard := none } :: rest) a w :=
  wpList_plain rfl fun K hK => wp_stP _ _ _ _ _ _ _ N x y q0 m0 e0 k op pl nn nm ar ex p l d c0 c1 c2 c3 c4 c5 c6 c7 c8 hx hy hc (fun W' hp => hK _ _ (h W' hp))
theorem put81 {w : World} {N : Nat} {k op pl nn : Int} {nm ar ex : ByteArray} {p : Option Addr} {l d : Nat} {c0 c1 c2 c3 c4 c5 c6 c7 c8 : Value} {ty : TypeId} (hN : w.heap[N]? = some (.cells #[c0, c1, c2, c3, c4, c5, c6, c7, c8] ty (0, 0))) : Put1 N #[c0, .int .u8 k, .int .u8 op, .int .i64 pl, .int .i64 nn, .string nm, .string ar, .string ex, .slice p l d] ty w ((((((((w.setCell ⟨N, 1, none⟩ (.int .u8 k)).setCell ⟨N, 2, none⟩ (.int .u8 op)).setCell ⟨N, 3, none⟩ (.int .i64 pl)).setCell ⟨N, 4, none⟩ (.int .i64 nn)).setCell ⟨N, 5, none⟩ (.string nm)).setCell ⟨N, 6, none⟩ (.string ar)).setCell ⟨N, 7, none⟩ (.string ex)).setCell ⟨N, 8, none⟩ (.slice p l d)) := by
  have h0 := set_block (j := 1) (v := .int .u8 k) hN
  rw [show (#[c0, c1, c2, c3, c4, c5, c6, c7, c8] : Array Value).setIfInBounds 1 (.int .u8 k) = #[c0, .int .u8 k, c2, c3, c4, c5, c6, c7, c8] from rfl] at h0
  have h1 := set_block (j := 2) (v := .int .u8 op) h0
  rw [show (#[c0, .int .u8 k, c2, c3, c4, c5, c6, c7, c8] : Array Value).setIfInBounds 2 (.int .u8 op) = #[c0, .int .u8 k, .int .u8 op, c3, c4, c5, c6, c7, c8] from rfl] at h1
  have h2 := set_block (j := 3) (v := .int .i64 pl) h1
  rw [show (#[c0, .int .u8 k, .int .u8 op, c3, c4, c5, c6, c7, c8] : Array Value).setIfInBounds 3 (.int .i64 pl) = #[c0, .int .u8 k, .int .u8 op, .int .i64 pl, c4, c5, c6, c7, c8] from rfl] at h2
  have h3 := set_block (j := 4) (v := .int .i64 nn) h2
  rw [show (#[c0, .int .u8 k, .int .u8 op, .int .i64 pl, c4, c5, c6, c7, c8] : Array Value).setIfInBounds 4 (.int .i64 nn) = #[c0, .int .u8 k, .int .u8 op, .int .i64 pl, .int .i64 nn, c5, c6, c7, c8] from rfl] at h3
  have h4 := set_block (j := 5) (v := .string nm) h3
  rw [show (#[c0, .int .u8 k, .int .u8 op, .int .i64 pl, .int .i64 nn, c5, c6, c7, c8] : Array Value).setIfInBounds 5 (.string nm) = #[c0, .int .u8 k, .int .u8 op, .int .i64 pl, .int .i64 nn, .string nm, c6, c7, c8] from rfl] at h4
  have h5 := set_block (j := 6) (v := .string ar) h4
  rw [show (#[c0, .int .u8 k, .int .u8 op, .int .i64 pl, .int .i64 nn, .string nm, c6, c7, c8] : Array Value).setIfInBounds 6 (.string ar) = #[c0, .int .u8 k, .int .u8 op, .int .i64 pl, .int .i64 nn, .string nm, .string ar, c7, c8] from rfl] at h5
  have h6 := set_block (j := 7) (v := .string ex) h5
  rw [show (#[c0, .int .u8 k, .int .u8 op, .int .i64 pl, .int .i64 nn, .string nm, .string ar, c7, c8] : Array Value).setIfInBounds 7 (.string ex) = #[c0, .int .u8 k, .int .u8 op, .int .i64 pl, .int .i64 nn, .string nm, .string ar, .string ex, c8] from rfl] at h6
  have h7 := set_block (j := 8) (v := .slice p l d) h6
  rw [show (#[c0, .int .u8 k, .int .u8 op, .int .i64 pl, .int .i64 nn, .string nm, .string ar, .string ex, c8] : Array Value).setIfInBounds 8 (.slice p l d) = #[c0, .int .u8 k, .int .u8 op, .int .i64 pl, .int .i64 nn, .string nm, .string ar, .string ex, .slice p l d] from rfl] at h7
  refine ⟨by simp only [os_set], by simp only [tape_set], by simp only [output_set], by simp [World.setCell], h7, fun b hb => ?_⟩
  rw [Below.heap_setCell _ _ _ _ hb, Below.heap_setCell _ _ _ _ hb, Below.heap_setCell _ _ _ _ hb, Below.heap_setCell _ _ _ _ hb, Below.heap_setCell _ _ _ _ hb, Below.heap_setCell _ _ _ _ hb, Below.heap_setCell _ _ _ _ hb, Below.heap_setCell _ _ _ _ hb]
theorem wpList_stT1 {w : World} {ops : Array Oper} {rest : List Oper} {a : Act} {Q : Exit → Act → World → Prop} {ps : String} {ty : TypeId} {af : Array Edge} (N x y : Nat) (k op pl nn : Int) (nm ar ex : ByteArray) (p : Option Addr) (l d : Nat) (c0 c1 c2 c3 c4 c5 c6 c7 c8 : Value)
    (hx : a.tmps[x]?.getD undef = .pointer (some ⟨N, 1, none⟩)) (hy : a.tmps[y]?.getD undef = .agg #[.int .u8 k, .int .u8 op, .int .i64 pl, .int .i64 nn, .string nm, .string ar, .string ex, .slice p l d]) (hc : w.heap[N]? = some (.cells #[c0, c1, c2, c3, c4, c5, c6, c7, c8] 31 (0, 0)))
    (h : ∀ W', Put1 N #[c0, .int .u8 k, .int .u8 op, .int .i64 pl, .int .i64 nn, .string nm, .string ar, .string ex, .slice p l d] 31 w W' → wpList Tryz.prog ops Q rest a W') :
    wpList Tryz.prog ops Q ({ dst := none, op := .store 29 (.tmp x) (.tmp y), type := ty, pos := ps, after := af, guard := none } :: rest) a w := by
  have hp := put81 (k := k) (op := op) (pl := pl) (nn := nn) (nm := nm) (ar := ar) (ex := ex) (p := p) (l := l) (d := d) hc
  have h' := h _ hp
  clear h hp
  refine wpList_plain rfl fun K hK => ?_
  have h2 := hK _ _ h'
  clear h' hK
  obtain ⟨⟨g0, g1, g2, g3, g4, g5, g6, g7, g8⟩, e0', e1, e2, e3, e4, e5, e6, e7, e8⟩ := cells9' hc
  have ql := lt_of_block hc
  clear hc
  go_simp
  exact h2
theorem wpList_stP0 {w : World} {ops : Array Oper} {rest : List Oper} {a : Act} {Q : Exit → Act → World → Prop} {ps : String} {ty : TypeId} {af : Array Edge} (N x y : Nat) (q : Option Addr) (m e : Nat) (c0 c1 c2 c3 c4 c5 c6 c7 c8 : Value)
    (hx : a.tmps[x]?.getD undef = .pointer (some ⟨N, 0, none⟩)) (hy : a.tmps[y]?.getD undef = .slice q m e) (hc : w.heap[N]? = some (.cells #[c0, c1, c2, c3, c4, c5, c6, c7, c8] 31 (0, 0)))
    (h : ∀ W', Put1 N #[.slice q m e, c1, c2, c3, c4, c5, c6, c7, c8] 31 w W' → wpList Tryz.prog ops Q rest a W') :
    wpList Tryz.prog ops Q ({ dst := none, op := .store 24 (.tmp x) (.tmp y), type := ty, pos := ps, after := af, guard := none } :: rest) a w := by
  have hp : Put1 N #[.slice q m e, c1, c2, c3, c4, c5, c6, c7, c8] 31 w (w.setCell ⟨N, 0, none⟩ (.slice q m e)) := ⟨rfl, rfl, rfl, by simp [World.setCell], by
    have h0 := set_block (j := 0) (v := .slice q m e) hc
    rw [show (#[c0, c1, c2, c3, c4, c5, c6, c7, c8] : Array Value).setIfInBounds 0 (.slice q m e) = #[.slice q m e, c1, c2, c3, c4, c5, c6, c7, c8] from rfl] at h0
    exact h0, fun b hb => Below.heap_setCell _ _ _ _ hb⟩
  have h' := h _ hp
  clear h hp
  refine wpList_plain rfl fun K hK => ?_
  have h2 := hK _ _ h'
  clear h' hK
  obtain ⟨⟨g0, g1, g2, g3, g4, g5, g6, g7, g8⟩, e0', e1, e2, e3, e4, e5, e6, e7, e8⟩ := cells9' hc
  have ql := lt_of_block hc
  clear hc
  go_simp
  exact h2
theorem RowAt.far {w W : World} {g n c : Nat} {T : List Tok} (h : RowAt w g n c T) (he : W.heap[g]? = w.heap[g]?) : RowAt W g n c T := ⟨ToksAt.far h.toks he, h.len, h.cap, h.small, h.row, h.texts, h.places⟩
/-- What a round relies on: the result's box, the state's, the program's that grows. -/
structure PrB (w : World) (g n c N : Nat) (T : List Tok) (s : St) (v : Value) (wr : World) : Prop where
  below : Below w.heap.size w wr
  b2 : wr.heap[w.heap.size]? = some (.cells #[.slice none 0 0, .int .u8 0, .int .u8 0, .int .i64 0, .int .i64 0, .string ⟨#[]⟩, .string ⟨#[]⟩, .string ⟨#[]⟩, .slice none 0 0] 31 (0, 0))
  b5 : wr.heap[N]? = some (.cells #[.slice (some ⟨g, 0, none⟩) n c, .int .i64 s.i, .bool s.bad] 56 (0, 0))
  b8 : wr.heap[N + 1]? = some (.cells #[v, .int .u8 0, .int .u8 0, .int .i64 0, .int .i64 0, .string ⟨#[]⟩, .string ⟨#[]⟩, .string ⟨#[]⟩, .slice none 0 0] 31 (0, 0))
  row : RowAt wr g n c T
  lt : s.i < n
  lo : w.heap.size < N
  gl : g < N
  gn : g ≠ w.heap.size
theorem PrB.call {w : World} {g n c N : Nat} {T : List Tok} {s : St} {v : Value} {wr W : World} (k : PrB w g n c N T s v wr) (hb : Below wr.heap.size wr W) : PrB w g n c N T s v W :=
  ⟨k.below.trans (hb.mono k.below.size), bx_call k.b2 hb, bx_call k.b5 hb, bx_call k.b8 hb, k.row.below hb, k.lt, k.lo, k.gl, k.gn⟩
theorem PrB.state {w : World} {g n c N : Nat} {T : List Tok} {s s' : St} {v : Value} {wr W : World} (k : PrB w g n c N T s v wr) (hp : Put1 N #[.slice (some ⟨g, 0, none⟩) n c, .int .i64 s'.i, .bool s'.bad] 56 wr W) (hl : s'.i < n) : PrB w g n c N T s' v W :=
  ⟨hp.below k.below (Nat.le_of_lt k.lo), bx_put k.b2 hp (by have := k.lo; omega), hp.here, bx_put k.b8 hp (by omega), k.row.far (hp.off g (by have := k.gl; omega)), hl, k.lo, k.gl, k.gn⟩
theorem PrB.out {w : World} {g n c N : Nat} {T : List Tok} {s : St} {v v' : Value} {wr W : World} (k : PrB w g n c N T s v wr) (hp : Put1 (N + 1) #[v', .int .u8 0, .int .u8 0, .int .i64 0, .int .i64 0, .string ⟨#[]⟩, .string ⟨#[]⟩, .string ⟨#[]⟩, .slice none 0 0] 31 wr W) : PrB w g n c N T s v' W :=
  ⟨hp.below k.below (by have := k.lo; omega), bx_put k.b2 hp (by have := k.lo; omega), bx_put k.b5 hp (by omega), hp.here, k.row.far (hp.off g (by have := k.gl; omega)), k.lt, k.lo, k.gl, k.gn⟩
theorem PrB.grow {w : World} {g n c N : Nat} {T : List Tok} {s : St} {v : Value} {wr W : World} (k : PrB w g n c N T s v wr) (hb : Below (N + 2) wr W) : PrB w g n c N T s v W :=
  ⟨k.below.trans (hb.mono (by have := k.lo; omega)), (hb.block _ (by have := k.lo; omega)).trans k.b2, (hb.block _ (by omega)).trans k.b5, (hb.block _ (by omega)).trans k.b8, k.row.far (hb.block g (by have := k.gl; omega)), k.lt, k.lo, k.gl, k.gn⟩
theorem PrB.size {w : World} {g n c N : Nat} {T : List Tok} {s : St} {v : Value} {wr : World} (k : PrB w g n c N T s v wr) : N + 2 ≤ wr.heap.size := by have := lt_of_block k.b8; omega
theorem own_put {W W' : World} {B N k n : Nat} {ty ty' : TypeId} {v : Value} {xs : List Value} {cs : Array Value} (h : W.ownsRow B ty k v n xs) (hp : Put1 N cs ty' W W') (hN : N < B) : W'.ownsRow B ty k v n xs := owns_keep h fun b h1 _ => hp.off b (by omega)
/-- Where the round stands, in the document's words. -/
def Go (T : List Tok) (gk : Nat) (s : St) (es : List Tok) : Prop :=
  (s.bad = false ∧ 3 * es.length ≤ s.i ∧ gk + es.length = T.length ∧ exnsF T T.length ⟨0, false⟩ = (es ++ (exnsF T gk s).1, (exnsF T gk s).2)) ∨ (s.bad = true ∧ es.length ≤ T.length ∧ (exnsF T T.length ⟨0, false⟩).2 = s)
theorem Go.start (T : List Tok) : Go T T.length ⟨0, false⟩ [] := .inl ⟨rfl, Nat.zero_le _, rfl, by rw [List.nil_append]⟩
theorem Go.stop {T : List Tok} {gk i : Nat} {es : List Tok} (h : Go T gk ⟨i, false⟩ es) (ht : textOf T i ≠ wExn) : exnsF T T.length ⟨0, false⟩ = (es, ⟨i, false⟩) := by
  rcases h with ⟨_, _, _, h⟩ | ⟨h, _⟩
  · rw [h, exns_stop ht, List.append_nil]
  · cases h
theorem Go.bad {T : List Tok} {gk i : Nat} {es : List Tok} (h : Go T gk ⟨i, true⟩ es) : (exnsF T T.length ⟨0, false⟩).2 = ⟨i, true⟩ := by
  rcases h with ⟨h, _⟩ | ⟨_, _, h⟩
  · cases h
  · exact h
theorem Go.few {T : List Tok} {gk : Nat} {s : St} {es : List Tok} (h : Go T gk s es) (hs : s.i < T.length) : es.length ≤ T.length := by
  rcases h with ⟨_, h, _⟩ | ⟨_, h, _⟩
  · omega
  · exact h
theorem Go.fuel {T : List Tok} {gk i : Nat} {es : List Tok} (h : Go T gk ⟨i, false⟩ es) (hi : i < T.length) : ∃ k, gk = k + 1 := by
  rcases h with ⟨_, h1, h2, _⟩ | ⟨h, _⟩
  · have h1' : 3 * es.length ≤ i := h1
    exact ⟨gk - 1, by omega⟩
  · cases h
theorem Go.next {T : List Tok} {k i : Nat} {es : List Tok} (h : Go T (k + 1) ⟨i, false⟩ es) (ht : textOf T i = wExn) (hi : i < T.length) : Go T k (wantF T (getF T ⟨i + 1, false⟩ 3) wSemi) (es ++ [tel T (i + 1)]) := by
  rcases h with ⟨_, h1, h2, h⟩ | ⟨h, _⟩
  rotate_left
  · cases h
  have h1' : 3 * es.length ≤ i := h1
  have e : exnsF T (k + 1) ⟨i, false⟩ = if (wantF T (getF T ⟨i + 1, false⟩ 3) wSemi).bad = true then ([], wantF T (getF T ⟨i + 1, false⟩ 3) wSemi) else (tel T (i + 1) :: (exnsF T k (wantF T (getF T ⟨i + 1, false⟩ 3) wSemi)).1, (exnsF T k (wantF T (getF T ⟨i + 1, false⟩ 3) wSemi)).2) := by
    rw [exnsF, if_neg (fun hc => hc.elim (fun hb => by cases hb) (fun hb => hb ht)), want_ok ht]
  by_cases hb : (wantF T (getF T ⟨i + 1, false⟩ 3) wSemi).bad = true
  · refine .inr ⟨hb, by simp; omega, ?_⟩
    rw [h, e, if_pos hb]
  · have hi3 : (wantF T (getF T ⟨i + 1, false⟩ 3) wSemi).i = i + 3 := by
      unfold wantF getF at hb ⊢
      by_cases hg : (⟨i + 1, false⟩ : St).bad = true ∨ (tel T (⟨i + 1, false⟩ : St).i).k ≠ 3
      · rw [if_pos hg] at hb
        rw [if_pos (.inl rfl)] at hb
        exact absurd rfl hb
      · rw [if_neg hg] at hb ⊢
        by_cases hw : (⟨i + 1 + 1, false⟩ : St).bad = true ∨ textOf T (⟨i + 1 + 1, false⟩ : St).i ≠ wSemi
        · exact absurd (by rw [if_pos hw]) hb
        · rw [if_neg hw]
    refine .inl ⟨by simpa using hb, by rw [hi3]; simp; omega, by simp; omega, ?_⟩
    rw [h, e, if_neg hb, List.append_assoc]
    rfl
theorem semi_lit : wSemi = ⟨#[59]⟩ := rfl
/-- What a program's text comes to, once its tokens are there. -/
theorem prog_res {xs : List Int} {ts T : List Tok} {r : St × Tm} (hx : xs.length ≤ 65536) (hl : lex xs 0 = .inr ts) (h4 : ts.length ≤ 4000) (hT : T = ts ++ [endT xs.length]) (hr : exprF T (fuelOf T) (exnsF T T.length ⟨0, false⟩).2 = some r) :
    progRes xs = if r.1.bad = false ∧ (tel T r.1.i).k = 6 then .good (exnsF T T.length ⟨0, false⟩).1 r.2 else .bad (tel T r.1.i).a 2 := by
  unfold progRes
  rw [if_neg (by omega), hl]
  show qtoksRes ts xs.length = _
  unfold qtoksRes
  rw [if_neg (by omega), ← hT, hr]
  rfl
set_option maxRecDepth 100000 in
set_option maxHeartbeats 51200000 in
theorem parseD_walk (p : Option Addr) (nn d : Nat) (xs : List Int) (w : World) (hb : BytesIn w p nn d xs) (hfew : ∀ ts, lex xs 0 = .inr ts → ts.length + 1 ≤ 4001) :
    Calls Tryz.prog 7 #[.slice p nn d] w (ProgRet (progRes xs) w) := by
  obtain ⟨i0, hi0, hz00, hz01, hz02⟩ := info_parts infoTok
  have HI := Lib.hid hi0; have HZ0 := Lib.hid hz00; have HZ1 := Lib.hid hz01; have HZ2 := Lib.hid hz02
  clear hi0 hz00 hz01 hz02
  have ha := al_new (W := w) (.cells #[.slice none 0 0, .int .u8 0, .int .u8 0, .int .i64 0, .int .i64 0, .string ⟨#[]⟩, .string ⟨#[]⟩, .string ⟨#[]⟩, .slice none 0 0] 31)
  have hbg := begin_walk p nn d xs (w.alloc (.cells #[.slice none 0 0, .int .u8 0, .int .u8 0, .int .i64 0, .int .i64 0, .string ⟨#[]⟩, .string ⟨#[]⟩, .string ⟨#[]⟩, .slice none 0 0] 31)) (hb.below ha) hfew
  have hbx := heap_alloc_new w (.cells #[.slice none 0 0, .int .u8 0, .int .u8 0, .int .i64 0, .int .i64 0, .string ⟨#[]⟩, .string ⟨#[]⟩, .string ⟨#[]⟩, .slice none 0 0] 31)
  have HBG := Lib.hid hbg; have HA := Lib.hid ha; have HBX := Lib.hid hbx
  clear ha hbg hbx hb
  go_enter Tryz.func7, Tryz.ntmps7
  go_wp2_with (fail)
  refine HBG.out.mono ?_
  rintro e w1 ⟨hb1, h⟩
  have hB1 : Below w.heap.size w w1 := HA.out.trans (hb1.mono HA.out.size)
  have hx1 := bx_call HBX.out hb1
  have hz1 := lt_of_block hx1
  rcases h with ⟨hlen, rfl⟩ | ⟨hlen, k, hk, rfl⟩ | ⟨hlen, ts, g, c, hlx, rfl, hR⟩
  · clear hfew
    have hres : progRes xs = .bad 0 3 := by unfold progRes; rw [if_pos hlen]
    have HRES := Lib.hid hres; have HX1 := Lib.hid (bx_call hx1 (al_new (.cells #[.slice none 0 0, .int .i64 0, .bool false] 56))); have HB1 := Lib.hid (hB1.trans ((al_new (W := w1) (.cells #[.slice none 0 0, .int .i64 0, .bool false] 56)).mono hB1.size))
    clear hres hx1 hB1 hb1 HBG HA HBX
    go_wp2_with (refine wpList_stP w.heap.size 2 18 none 0 0 0 0 0 0 ⟨#[]⟩ ⟨#[]⟩ ⟨#[]⟩ none 0 0 _ _ _ _ _ _ _ _ _ rfl rfl HX1.out ?_; intro w4 p4; have P4 := Lib.hid p4; clear p4)
    have hr3 := P4.out.here
    obtain ⟨⟨g0, g1, g2, g3, g4, g5, g6, g7, g8⟩, f0, f1, f2, f3, f4, f5, f6, f7, f8⟩ := cells9' hr3
    have rl3 := lt_of_block hr3
    clear hr3
    refine bodyPost_ret (v := .tuple #[.agg #[.slice none 0 0, .int .u8 0, .int .u8 0, .int .i64 0, .int .i64 0, .string ⟨#[]⟩, .string ⟨#[]⟩, .string ⟨#[]⟩, .slice none 0 0], .int .i64 0, .int .i64 3]) (by simp [results, Tryz.results7, go_sem, g0, g1, g2, g3, g4, g5, g6, g7, g8, rl3]) rfl ⟨P4.out.below HB1.out (Nat.le_refl _), .inl ⟨_, _, HRES.out, rfl⟩⟩
  · clear hfew
    have hres : progRes xs = .bad (k : Int) 2 := by unfold progRes; rw [if_neg (by omega), hk]
    have HRES := Lib.hid hres; have HX1 := Lib.hid (bx_call hx1 (al_new (.cells #[.slice none 0 0, .int .i64 0, .bool false] 56))); have HB1 := Lib.hid (hB1.trans ((al_new (W := w1) (.cells #[.slice none 0 0, .int .i64 0, .bool false] 56)).mono hB1.size))
    clear hk hres hx1 hB1 hb1 HBG HA HBX
    go_wp2_with (refine wpList_stP w.heap.size 2 18 none 0 0 0 0 0 0 ⟨#[]⟩ ⟨#[]⟩ ⟨#[]⟩ none 0 0 _ _ _ _ _ _ _ _ _ rfl rfl HX1.out ?_; intro w4 p4; have P4 := Lib.hid p4; clear p4)
    have hr3 := P4.out.here
    obtain ⟨⟨g0, g1, g2, g3, g4, g5, g6, g7, g8⟩, f0, f1, f2, f3, f4, f5, f6, f7, f8⟩ := cells9' hr3
    have rl3 := lt_of_block hr3
    clear hr3
    refine bodyPost_ret (v := .tuple #[.agg #[.slice none 0 0, .int .u8 0, .int .u8 0, .int .i64 0, .int .i64 0, .string ⟨#[]⟩, .string ⟨#[]⟩, .string ⟨#[]⟩, .slice none 0 0], .int .i64 (k : Int), .int .i64 2]) (by simp [results, Tryz.results7, go_sem, g0, g1, g2, g3, g4, g5, g6, g7, g8, rl3]) rfl ⟨P4.out.below HB1.out (Nat.le_refl _), .inl ⟨_, _, HRES.out, rfl⟩⟩
  · have hf := hfew ts hlx
    clear hfew
    obtain ⟨T, hT⟩ : ∃ T, T = ts ++ [endT xs.length] := ⟨_, rfl⟩
    rw [← hT] at hR
    obtain ⟨r, hr⟩ := prog_enough hR.row
    have hres0 := prog_res hlen hlx (by omega) hT hr
    have h0 := (hR.toks 0 (by rw [hR.len]; omega)).2.1
    have hgn : g ≠ w.heap.size := by
      intro e
      rw [e] at h0
      unfold World.cell? at h0
      rw [hx1] at h0
      simp at h0
    have hgl : g < w1.heap.size := World.block_lt_of_cell? _ _ h0
    obtain ⟨n, hn⟩ : ∃ n, n = ts.length + 1 := ⟨_, rfl⟩
    rw [← hn] at hR
    obtain ⟨N, hN⟩ : ∃ N, N = w1.heap.size := ⟨_, rfl⟩
    have hs1 : (w1.alloc (.cells #[.slice (some ⟨g, 0, none⟩) n c, .int .i64 0, .bool false] 56)).heap.size = N + 1 := by simp [hN]
    have hp0 : PrB w g n c N T ⟨0, false⟩ (.slice none 0 0) ((w1.alloc (.cells #[.slice (some ⟨g, 0, none⟩) n c, .int .i64 0, .bool false] 56)).alloc (.cells #[.slice none 0 0, .int .u8 0, .int .u8 0, .int .i64 0, .int .i64 0, .string ⟨#[]⟩, .string ⟨#[]⟩, .string ⟨#[]⟩, .slice none 0 0] 31)) := by
      have a1 := al_new (W := w1) (.cells #[.slice (some ⟨g, 0, none⟩) n c, .int .i64 0, .bool false] 56)
      have a2 := al_new (W := w1.alloc (.cells #[.slice (some ⟨g, 0, none⟩) n c, .int .i64 0, .bool false] 56)) (.cells #[.slice none 0 0, .int .u8 0, .int .u8 0, .int .i64 0, .int .i64 0, .string ⟨#[]⟩, .string ⟨#[]⟩, .string ⟨#[]⟩, .slice none 0 0] 31)
      refine ⟨(hB1.trans (a1.mono hB1.size)).trans (a2.mono (by rw [hs1]; omega)), bx_call (bx_call hx1 a1) a2, ?_, ?_, (hR.below a1).below a2, by show 0 < n; omega, by omega, by omega, hgn⟩
      · rw [hN]; exact bx_call (heap_alloc_new w1 _) a2
      · rw [← hs1]; exact heap_alloc_new _ _
    have HP0 := Lib.hid hp0; have HR := Lib.hid hr; have HRS := Lib.hid hres0; have HTN := Lib.hid (show T.length = n from hR.len)
    have hn7 : (n : Int) ≤ 70000 := by have := hR.small; omega
    clear hT hf hp0 hr hres0 h0 hR hs1 hx1 hB1 hb1 HBG HA HBX hlx hgn hgl
    have HNN := Lib.hid hN; have HNE := Lib.hid hn
    clear hN hn
    go_wp2_with (fail)
    rw [← HNN.out]
    go_loopg [] T.length (fun (gk : Nat) (wr : World) => ∃ (s : St) (v : Value) (es : List Tok), Hid (PrB w g n c N T s v wr) ∧ Hid (wr.ownsRow (N + 2) 46 3 v es.length (tcells es)) ∧ Hid (Go T gk s es))
    case atStart => exact ⟨⟨0, false⟩, .slice none 0 0, [], by simpa [HNE.out, HNN.out] using HP0, Lib.hid (World.ownsRow_nil _ _ _ _), Lib.hid (Go.start T)⟩
    case round =>
      clear HP0
      obtain ⟨⟨i, b⟩, v, es, HP, HO, HG⟩ := hrel
      obtain ⟨q0, m0, e0, rfl⟩ := owns_slice HO.out
      have hin : (i : Int) < (n : Int) := by have := HP.out.lt; have : i < n := this; omega
      obtain ⟨⟨u0, u1, u2⟩, v0, v1, v2⟩ := cellsS HP.out.b5
      have ul := lt_of_block HP.out.b5
      cases b with
      | true =>
        have hex := HG.out.bad
        have hr := HR.out
        rw [hex] at hr
        have hbd : r.1.bad = true := by rw [expr_bad T (s := ⟨i, true⟩) rfl hr]
        have hres : progRes xs = .bad (tel T r.1.i).a 2 := by rw [HRS.out, if_neg (by rw [hbd]; simp)]
        have u2' : wr.cell? ⟨N, 2, none⟩ = some (.bool true) := u2
        have HRES := Lib.hid hres; have HBD := Lib.hid hbd
        clear HR u2
        have HR := Lib.hid hr
        clear hr hres hbd hex
        have hx := expr_doc g n c T (fuelOf T) wr ⟨i, true⟩ r HP.out.row HP.out.lt HR.out
        have hx' : Calls Tryz.prog 24 #[.agg #[.slice (some ⟨g, 0, none⟩) n c, .int .i64 i, .bool true]] wr (DEnd g n c r wr) := hx
        have hrl : r.1.i < n := expr_n HP.out.row (s := ⟨i, true⟩) HP.out.lt HR.out
        have hri1 : (r.1.i : Int) < (n : Int) := by omega
        have hri0 : (0 : Int) ≤ (r.1.i : Int) := by omega
        have HX := Lib.hid hx'; have HRL := Lib.hid hrl
        clear hx hx' hrl
        go_upto_region 11 with (fail)
        go_wp2_with (fail)
        refine HX.out.mono ?_
        rintro e w2 ⟨h, q, l, d', rfl, hT2, hb2⟩
        have HP2 := Lib.hid (HP.out.call hb2)
        have HO2 := Lib.hid (own_below HO.out hb2)
        have HTF := Lib.hid (TmFr.new hT2)
        have HSZ := Lib.hid HP.out.size
        clear hT2 hb2 HX
        go_upto_region 12 with (first | (refine wpList_stS N 5 56 (some ⟨g, 0, none⟩) n c r.1.i r.1.bad _ _ _ rfl rfl HP2.out.b5 ?_; intro w3 p3; have HP3 := Lib.hid (HP2.out.state (s' := r.1) p3 HRL.out); have HO3 := Lib.hid (own_put HO2.out p3 (by omega)); have HTG := Lib.hid (HTF.out.put p3 (.inl (by have := HSZ.out; omega))); clear p3) | (refine wpList_stT1 (N + 1) 58 57 h.k h.op h.pl h.n h.name h.arg h.exn q l d' _ _ _ _ _ _ _ _ _ rfl rfl HP3.out.b8 ?_; intro w4 p4; have HO4 := Lib.hid (own_put HO3.out p4 (by omega)); have HB5 := Lib.hid (bx_put HP3.out.b5 p4 (by omega)); have HB8 := Lib.hid p4.here; have HB2 := Lib.hid (bx_put HP3.out.b2 p4 (by have := HP3.out.lo; omega)); have HTH := Lib.hid (HTG.out.put p4 (.inl (by have := HSZ.out; omega))); have HBL := Lib.hid (p4.below HP3.out.below (by have := HP3.out.lo; omega)); have HRW := Lib.hid (HP3.out.row.far (p4.off g (by have := HP3.out.gl; omega))); clear p4))
        obtain ⟨⟨x0, x1, x2⟩, y0, y1, y2⟩ := cellsS HB5.out
        have xl := lt_of_block HB5.out
        rw [HBD.out] at x2
        go_upto_region 13 with (fail)
        have hini : (∀ k, k ≠ w.heap.size → w4.drew.heap[k]? = w4.heap[k]?) := fun _ _ => rfl
        have hlo := HP3.out.lo
        have HX4 := Lib.hid HB2.out
        refine wp_region_held_drew (S := fun V => ∀ k, k ≠ w.heap.size → V.heap[k]? = w4.heap[k]?) (by kernel_rfl) hini (fun hHeld => ?_)
        clear hini
        refine wpAnyH_take (i := 0) (v := .agg #[.slice none 0 0, .int .u8 0, .int .u8 0, .int .i64 0, .int .i64 0, .string ⟨#[]⟩, .string ⟨#[]⟩, .string ⟨#[]⟩, .slice none 0 0]) rfl (by kernel_rfl) (by kernel_rfl) (by kernel_rfl) (fun _ _ _ h => h) (Or.inl ⟨by rfl, ?_⟩) (by assumption) ?_
        · intro w' hSw
          kernel_rfl
        try simp only [Act.put, la, lb, lc, ld, le, lf]
        refine wpAnyH_take (i := 1) (v := .pointer (some ⟨N, 0, none⟩)) rfl (by kernel_rfl) (by kernel_rfl) (by kernel_rfl) (fun _ _ _ h => h) (Or.inl ⟨by rfl, ?_⟩) (by assumption) ?_
        · intro w' hSw
          first | (go_simp; done) | rfl
        try simp only [Act.put, la, lb, lc, ld, le, lf]
        refine wpAnyH_take (i := 2) (v := .slice (some ⟨g, 0, none⟩) n c) rfl (by kernel_rfl) (by kernel_rfl) (by kernel_rfl) (fun _ _ _ h => h) (Or.inl ⟨by rfl, ?_⟩) (by assumption) ?_
        · intro w' hSw
          obtain ⟨⟨g0, g1, g2⟩, d0, d1, d2⟩ := cellsS ((hSw _ (by omega)).trans HB5.out)
          first | (go_simp; done) | rfl
        try simp only [Act.put, la, lb, lc, ld, le, lf]
        refine wpAnyH_take (i := 3) (v := .pointer (some ⟨N, 1, none⟩)) rfl (by kernel_rfl) (by kernel_rfl) (by kernel_rfl) (fun _ _ _ h => h) (Or.inl ⟨by rfl, ?_⟩) (by assumption) ?_
        · intro w' hSw
          first | (go_simp; done) | rfl
        try simp only [Act.put, la, lb, lc, ld, le, lf]
        refine wpAnyH_take (i := 4) (v := .int .i64 (r.1.i : Int)) rfl (by kernel_rfl) (by kernel_rfl) (by kernel_rfl) (fun _ _ _ h => h) (Or.inl ⟨by rfl, ?_⟩) (by assumption) ?_
        · intro w' hSw
          obtain ⟨⟨g0, g1, g2⟩, d0, d1, d2⟩ := cellsS ((hSw _ (by omega)).trans HB5.out)
          first | (go_simp; done) | rfl
        try simp only [Act.put, la, lb, lc, ld, le, lf]
        refine wpAnyH_take (i := 5) (v := .pointer (some ⟨g, r.1.i * 3, none⟩)) rfl (by kernel_rfl) (by kernel_rfl) (by kernel_rfl) (fun _ _ _ h => h) (Or.inl ⟨by rfl, ?_⟩) (by assumption) ?_
        · intro w' hSw
          first | (go_simp; done) | rfl
        try simp only [Act.put, la, lb, lc, ld, le, lf]
        refine wpAnyH_take (i := 6) (v := .pointer (some ⟨g, r.1.i * 3 + 2, none⟩)) rfl (by kernel_rfl) (by kernel_rfl) (by kernel_rfl) (fun _ _ _ h => h) (Or.inl ⟨by rfl, ?_⟩) (by assumption) ?_
        · intro w' hSw
          first | (go_simp; done) | rfl
        try simp only [Act.put, la, lb, lc, ld, le, lf]
        refine wpAnyH_take (i := 7) (v := .int .i64 ((tel T r.1.i).a : Int)) rfl (by kernel_rfl) (by kernel_rfl) (by kernel_rfl) (fun _ _ _ h => h) (Or.inl ⟨by rfl, ?_⟩) (by assumption) ?_
        · intro w' hSw
          obtain ⟨s0, s1, s2⟩ := (ToksAt.far HRW.out.toks (hSw g HP3.out.gn)) r.1.i (by rw [HRW.out.len]; exact HRL.out)
          first | (go_simp; done) | rfl
        try simp only [Act.put, la, lb, lc, ld, le, lf]
        refine wpAnyH_ready (rs := [8]) (by kernel_rfl) (by simp) ?_
        refine AllReadyH.cons rfl (fun K hK => ?_) AllReadyH.nil
        have HK2 := Lib.hid hK
        clear hK
        try rw [if_pos (by rfl)]
        refine wp_stP _ _ _ _ _ _ _ w.heap.size _ _ none 0 0 0 0 0 0 ⟨#[]⟩ ⟨#[]⟩ ⟨#[]⟩ none 0 0 _ _ _ _ _ _ _ _ _ rfl rfl (show w4.drew.heap[w.heap.size]? = _ from HX4.out) (fun vb pb => ?_)
        have PB := Lib.hid pb
        clear pb
        refine HK2.out _ _ (fun k hk => (PB.out.off k hk).trans rfl) (fun hHeld => ?_)
        clear HK2
        try simp only [Act.put, la, lb, lc, ld, le, lf]
        clear K
        refine wpAnyH_ready (rs := [9]) (by kernel_rfl) (by simp) ?_
        refine AllReadyH.cons rfl (fun K hK => ?_) AllReadyH.nil
        have HK2 := Lib.hid hK
        clear hK
        go_simp
        refine HK2.out _ _ (fun k hk => (PB.out.off k hk).trans rfl) (fun hHeld => ?_)
        clear HK2
        try simp only [Act.put, la, lb, lc, ld, le, lf]
        clear K
        refine wpAnyH_ready (rs := [10]) (by kernel_rfl) (by simp) ?_
        refine AllReadyH.cons rfl (fun K hK => ?_) AllReadyH.nil
        have HK2 := Lib.hid hK
        clear hK
        go_simp
        refine HK2.out _ _ (fun k hk => (PB.out.off k hk).trans rfl) (fun hHeld => ?_)
        clear HK2
        try simp only [Act.put, la, lb, lc, ld, le, lf]
        clear K
        refine wpAnyH_done (by kernel_rfl) ?_ _
        clear hHeld
        have hr3 := PB.out.here
        obtain ⟨⟨g0, g1, g2, g3, g4, g5, g6, g7, g8⟩, f0, f1, f2, f3, f4, f5, f6, f7, f8⟩ := cells9' hr3
        have rl3 := lt_of_block hr3
        clear hr3
        go_wp2_with (fail)
        refine bodyPost_ret (v := .tuple #[.agg #[.slice none 0 0, .int .u8 0, .int .u8 0, .int .i64 0, .int .i64 0, .string ⟨#[]⟩, .string ⟨#[]⟩, .string ⟨#[]⟩, .slice none 0 0], .int .i64 ((tel T r.1.i).a : Int), .int .i64 2]) (by simp [results, Tryz.results7, go_sem, g0, g1, g2, g3, g4, g5, g6, g7, g8, rl3]) rfl ⟨PB.out.below HBL.out.drew (Nat.le_refl _), .inl ⟨_, _, HRES.out, rfl⟩⟩
      | false =>
        have u2' : wr.cell? ⟨N, 2, none⟩ = some (.bool false) := u2
        have u1' : wr.cell? ⟨N, 1, none⟩ = some (.int .i64 (i : Int)) := u1
        have htx := text_walk wr g n c T i false HP.out.row HP.out.lt
        obtain ⟨y, hy⟩ : ∃ y, textOf T i = y := ⟨_, rfl⟩
        rw [hy] at htx
        have HTX := Lib.hid htx; have HY := Lib.hid hy
        clear htx hy u1 u2
        go_wp2_with (fail)
        refine HTX.out.mono ?_
        rintro e w0 ⟨rfl, hb0⟩
        have HP1 := Lib.hid (HP.out.call hb0); have HO1 := Lib.hid (own_below HO.out hb0)
        clear hb0 HTX u0 u1' u2' v0 v1 v2 ul
        by_cases ht : y = wExn
        · have e1 : (y.toList == [101, 120, 110]) = true := by rw [ht]; decide +kernel
          have hti : textOf T i = wExn := by rw [HY.out]; exact ht
          obtain ⟨k, rfl⟩ := HG.out.fuel (by have := HP.out.lt; have := HTN.out; have : i < n := HP.out.lt; omega)
          have hnx := HG.out.next hti (by have := HTN.out; have : i < n := HP.out.lt; omega)
          have hfw := HG.out.few (by have := HTN.out; have : i < n := HP.out.lt; show i < T.length; omega)
          have hj1 : i + 1 < n := row_text HP.out.row HP.out.lt (by rw [hti]; decide +kernel)
          obtain ⟨j, hj⟩ : ∃ j, j = i + 1 := ⟨_, rfl⟩
          have hjc : (i : Int) + 1 = (j : Int) := by omega
          have hjn : (j : Int) < (n : Int) := by omega
          have hj0 : (0 : Int) ≤ (j : Int) := by omega
          rw [← hj] at hnx hj1
          have HNX := Lib.hid hnx; have HFW := Lib.hid hfw; have HJ := Lib.hid hj1; have HJC := Lib.hid hjc
          obtain ⟨⟨u0, u1, u2⟩, v0, v1, v2⟩ := cellsS HP1.out.b5
          have u1' : w0.cell? ⟨N, 1, none⟩ = some (.int .i64 (i : Int)) := u1
          have ul := lt_of_block HP1.out.b5
          clear hnx hfw hj1 hti ht u1 HP HO HG hjc hj
          go_upto_region 7 with (refine wpList_stI N 33 32 ((i : Int) + 1) _ _ _ rfl rfl HP1.out.b5 ?_; intro w2 p2; rw [HJC.out] at p2; have HP2 := Lib.hid (HP1.out.state (s' := ⟨j, false⟩) p2 HJ.out); have HO2 := Lib.hid (own_put HO1.out p2 (by omega)); clear p2)
          clear u0 u1' u2 v0 v1 v2 ul HP1 HO1
          obtain ⟨⟨u0, u1, u2⟩, v0, v1, v2⟩ := cellsS HP2.out.b5
          have u1' : w2.cell? ⟨N, 1, none⟩ = some (.int .i64 (j : Int)) := u1
          have ul := lt_of_block HP2.out.b5
          obtain ⟨t0, t1, t2⟩ := HP2.out.row.toks j (by rw [HP2.out.row.len]; exact HJ.out)
          generalize htk : tel T j = tk at *
          clear u1
          go_upto_region 8 with (fail)
          have HP3 := Lib.hid (HP2.out.call (al_new (.cells #[.int .u8 tk.k, .string tk.s, .int .i64 tk.a] 46))); have HO3 := Lib.hid (own_below HO2.out (al_new (.cells #[.int .u8 tk.k, .string tk.s, .int .i64 tk.a] 46))); have HX9 := Lib.hid (heap_alloc_new w2 (.cells #[.int .u8 tk.k, .string tk.s, .int .i64 tk.a] 46))
          have h92 := HP2.out.size
          clear u0 u1' u2 v0 v1 v2 ul t0 t1 t2 HP2 HO2
          generalize hw3 : w2.alloc (.cells #[.int .u8 tk.k, .string tk.s, .int .i64 tk.a] 46) = w3 at *
          obtain ⟨⟨u0, u1, u2⟩, v0, v1, v2⟩ := cellsS HP3.out.b5
          have u1' : w3.cell? ⟨N, 1, none⟩ = some (.int .i64 (j : Int)) := u1
          have u2' : w3.cell? ⟨N, 2, none⟩ = some (.bool false) := u2
          have hgt := get_walk w3 g n c T j false 3 HP3.out.row HP3.out.lt
          have hg2 : (getF T ⟨j, false⟩ 3).i < n := get_n HP3.out.row (s := ⟨j, false⟩) (by decide) HJ.out
          generalize hs2 : getF T ⟨j, false⟩ 3 = s2 at *
          have HGT := Lib.hid hgt; have HG2 := Lib.hid hg2
          clear hgt hg2 u1 u2
          go_wp2_with (fail)
          refine HGT.out.mono ?_
          rintro e w4 ⟨rfl, hb4⟩
          have HP4 := Lib.hid (HP3.out.call hb4); have HO4 := Lib.hid (own_below HO3.out hb4); have HX4 := Lib.hid (bx_call HX9.out hb4)
          clear hb4 HGT HP3 HO3 HX9 u0 u1' u2' v0 v1 v2
          go_upto_region 9 with (refine wpList_stS N 5 43 (some ⟨g, 0, none⟩) n c s2.i s2.bad _ _ _ rfl rfl HP4.out.b5 ?_; intro w5 p5; have HP5 := Lib.hid (HP4.out.state (s' := s2) p5 HG2.out); have HO5 := Lib.hid (own_put HO4.out p5 (by omega)); have HX5 := Lib.hid (bx_put HX4.out p5 (by omega)); clear p5)
          clear HP4 HO4 HX4
          obtain ⟨⟨u0, u1, u2⟩, v0, v1, v2⟩ := cellsS HP5.out.b5
          have hwt := want_walk w5 g n c T s2.i s2.bad ⟨#[59]⟩ HP5.out.row HP5.out.lt
          have hs3' : wantF T ⟨s2.i, s2.bad⟩ ⟨#[59]⟩ = wantF T s2 wSemi := rfl
          rw [hs3'] at hwt
          have hg3 : (wantF T s2 wSemi).i < n := want_n HP5.out.row (by decide) HP5.out.lt
          generalize hs3 : wantF T s2 wSemi = s3 at *
          have HWT := Lib.hid hwt; have HG3 := Lib.hid hg3
          clear hwt hg3 hs3'
          go_wp2_with (fail)
          refine HWT.out.mono ?_
          rintro e w6 ⟨rfl, hb6⟩
          have HP6 := Lib.hid (HP5.out.call hb6); have HO6 := Lib.hid (own_below HO5.out hb6); have HX6 := Lib.hid (bx_call HX5.out hb6)
          clear hb6 HWT HP5 HO5 HX5 u0 u1 u2 v0 v1 v2
          go_upto_region 10 with (refine wpList_stS N 5 46 (some ⟨g, 0, none⟩) n c s3.i s3.bad _ _ _ rfl rfl HP6.out.b5 ?_; intro w7 p7; have HP7 := Lib.hid (HP6.out.state (s' := s3) p7 HG3.out); have HO7 := Lib.hid (own_put HO6.out p7 (by omega)); have HX7 := Lib.hid (bx_put HX6.out p7 (by omega)); clear p7)
          clear HP6 HO6 HX6
          obtain ⟨⟨b0, b1, b2, b3, b4, b5, b6, b7, b8⟩, -⟩ := cells9' HP7.out.b8
          obtain ⟨⟨t0, t1, t2⟩, -⟩ := cellsS HX7.out
          have hs7 := HP7.out.size
          have hes : es.length ≤ 70000 := by have := HFW.out; have := HTN.out; omega
          have HS7 := Lib.hid hs7; have HES := Lib.hid hes
          have hall := (Below.refl (N + 2) w7).alloc hs7 (.cells #[.int .u8 tk.k, .string tk.s, .int .i64 tk.a] 46)
          have HALL := Lib.hid hall
          clear hs7 hes hall
          go_wp2_with (first | (at_builtin; refine wpList_append_own _ rfl (.tmp 48) (.tmp 50) 24 rfl (N + 2) 46 i0 (.agg #[.int .u8 0, .string ⟨#[]⟩, .int .i64 0]) 3 32 Tryz.underlying24 HI.out HZ0.out HZ1.out HZ2.out rfl (by decide) _ _ _ rfl (HO7.out.alloc _) ⟨w7.heap.size, 0, none⟩ 1 1 [.int .u8 tk.k, .string tk.s, .int .i64 tk.a] rfl rfl (three_new _ _ _ _ _) (by intro u hu; simp at hu; rcases hu with rfl | rfl | rfl <;> rfl) (by have := HES.out; unfold maxLen; omega) (by have := HES.out; omega) (by have := HS7.out; simp; omega) ?_; intro v8 w8 hown8 hgrow8 hnil8; have HAF := Lib.hid (HALL.out.grown hgrow8 (by have := HS7.out; simp; omega) (fun q hq => (HO7.out.lt q hq).1)); obtain ⟨q8, m8, e8, rfl⟩ := owns_slice hown8; have HO8 := Lib.hid hown8; have HP8 := Lib.hid (HP7.out.grow HAF.out); clear hown8 hgrow8 hnil8) | (refine wpList_stP0 (N + 1) 52 51 q8 m8 e8 _ _ _ _ _ _ _ _ _ rfl rfl HP8.out.b8 ?_; intro w9 p9; have HP9 := Lib.hid (HP8.out.out p9); have HO9 := Lib.hid (own_put HO8.out p9 (by omega)); clear p9))
          go_roundg k
          case measure => omega
          case rel =>
            refine ⟨s3, _, es ++ [tk], HP9, ?_, HNX⟩
            rw [List.length_append, tcells_snoc]; exact HO9
        · have e1 : (y.toList == [101, 120, 110]) = false := by
            have := Words.str_no (s := y) (t := wExn) ht
            have e : wExn.toList = [101, 120, 110] := by decide +kernel
            rwa [e] at this
          have hex := HG.out.stop (by rw [HY.out]; exact ht)
          have hr := HR.out
          have hrs := HRS.out
          rw [hex] at hr hrs
          clear HR HRS
          have HR := Lib.hid hr; have HRS := Lib.hid hrs
          clear HP HO HG hr hrs hex ht
          obtain ⟨⟨u0, u1, u2⟩, v0, v1, v2⟩ := cellsS HP1.out.b5
          have HP := HP1; have HO := HO1
          clear HP1 HO1
          generalize w0 = wr at *
          cases hbd : r.1.bad with
          | true =>
            have hres : progRes xs = .bad (tel T r.1.i).a 2 := by rw [HRS.out, if_neg (by rw [hbd]; simp)]
            have HRES := Lib.hid hres; have HBD := Lib.hid hbd
            clear hres hbd HRS
            have hx := expr_doc g n c T (fuelOf T) wr ⟨i, false⟩ r HP.out.row HP.out.lt HR.out
            have hx' : Calls Tryz.prog 24 #[.agg #[.slice (some ⟨g, 0, none⟩) n c, .int .i64 i, .bool false]] wr (DEnd g n c r wr) := hx
            have hrl : r.1.i < n := expr_n HP.out.row (s := ⟨i, false⟩) HP.out.lt HR.out
            have hri1 : (r.1.i : Int) < (n : Int) := by omega
            have hri0 : (0 : Int) ≤ (r.1.i : Int) := by omega
            have HX := Lib.hid hx'; have HRL := Lib.hid hrl
            clear hx hx' hrl
            go_upto_region 11 with (fail)
            go_wp2_with (fail)
            refine HX.out.mono ?_
            rintro e w2 ⟨h, q, l, d', rfl, hT2, hb2⟩
            have HP2 := Lib.hid (HP.out.call hb2)
            have HO2 := Lib.hid (own_below HO.out hb2)
            have HTF := Lib.hid (TmFr.new hT2)
            have HSZ := Lib.hid HP.out.size
            clear hT2 hb2 HX
            go_upto_region 12 with (first | (refine wpList_stS N 5 56 (some ⟨g, 0, none⟩) n c r.1.i r.1.bad _ _ _ rfl rfl HP2.out.b5 ?_; intro w3 p3; have HP3 := Lib.hid (HP2.out.state (s' := r.1) p3 HRL.out); have HO3 := Lib.hid (own_put HO2.out p3 (by omega)); have HTG := Lib.hid (HTF.out.put p3 (.inl (by have := HSZ.out; omega))); clear p3) | (refine wpList_stT1 (N + 1) 58 57 h.k h.op h.pl h.n h.name h.arg h.exn q l d' _ _ _ _ _ _ _ _ _ rfl rfl HP3.out.b8 ?_; intro w4 p4; have HO4 := Lib.hid (own_put HO3.out p4 (by omega)); have HB5 := Lib.hid (bx_put HP3.out.b5 p4 (by omega)); have HB8 := Lib.hid p4.here; have HB2 := Lib.hid (bx_put HP3.out.b2 p4 (by have := HP3.out.lo; omega)); have HTH := Lib.hid (HTG.out.put p4 (.inl (by have := HSZ.out; omega))); have HBL := Lib.hid (p4.below HP3.out.below (by have := HP3.out.lo; omega)); have HRW := Lib.hid (HP3.out.row.far (p4.off g (by have := HP3.out.gl; omega))); clear p4))
            obtain ⟨⟨x0, x1, x2⟩, y0, y1, y2⟩ := cellsS HB5.out
            have xl := lt_of_block HB5.out
            rw [HBD.out] at x2
            go_upto_region 13 with (fail)
            have hini : (∀ k, k ≠ w.heap.size → w4.drew.heap[k]? = w4.heap[k]?) := fun _ _ => rfl
            have hlo := HP3.out.lo
            have HX4 := Lib.hid HB2.out
            refine wp_region_held_drew (S := fun V => ∀ k, k ≠ w.heap.size → V.heap[k]? = w4.heap[k]?) (by kernel_rfl) hini (fun hHeld => ?_)
            clear hini
            refine wpAnyH_take (i := 0) (v := .agg #[.slice none 0 0, .int .u8 0, .int .u8 0, .int .i64 0, .int .i64 0, .string ⟨#[]⟩, .string ⟨#[]⟩, .string ⟨#[]⟩, .slice none 0 0]) rfl (by kernel_rfl) (by kernel_rfl) (by kernel_rfl) (fun _ _ _ h => h) (Or.inl ⟨by rfl, ?_⟩) (by assumption) ?_
            · intro w' hSw
              kernel_rfl
            try simp only [Act.put, la, lb, lc, ld, le, lf]
            refine wpAnyH_take (i := 1) (v := .pointer (some ⟨N, 0, none⟩)) rfl (by kernel_rfl) (by kernel_rfl) (by kernel_rfl) (fun _ _ _ h => h) (Or.inl ⟨by rfl, ?_⟩) (by assumption) ?_
            · intro w' hSw
              first | (go_simp; done) | rfl
            try simp only [Act.put, la, lb, lc, ld, le, lf]
            refine wpAnyH_take (i := 2) (v := .slice (some ⟨g, 0, none⟩) n c) rfl (by kernel_rfl) (by kernel_rfl) (by kernel_rfl) (fun _ _ _ h => h) (Or.inl ⟨by rfl, ?_⟩) (by assumption) ?_
            · intro w' hSw
              obtain ⟨⟨g0, g1, g2⟩, d0, d1, d2⟩ := cellsS ((hSw _ (by omega)).trans HB5.out)
              first | (go_simp; done) | rfl
            try simp only [Act.put, la, lb, lc, ld, le, lf]
            refine wpAnyH_take (i := 3) (v := .pointer (some ⟨N, 1, none⟩)) rfl (by kernel_rfl) (by kernel_rfl) (by kernel_rfl) (fun _ _ _ h => h) (Or.inl ⟨by rfl, ?_⟩) (by assumption) ?_
            · intro w' hSw
              first | (go_simp; done) | rfl
            try simp only [Act.put, la, lb, lc, ld, le, lf]
            refine wpAnyH_take (i := 4) (v := .int .i64 (r.1.i : Int)) rfl (by kernel_rfl) (by kernel_rfl) (by kernel_rfl) (fun _ _ _ h => h) (Or.inl ⟨by rfl, ?_⟩) (by assumption) ?_
            · intro w' hSw
              obtain ⟨⟨g0, g1, g2⟩, d0, d1, d2⟩ := cellsS ((hSw _ (by omega)).trans HB5.out)
              first | (go_simp; done) | rfl
            try simp only [Act.put, la, lb, lc, ld, le, lf]
            refine wpAnyH_take (i := 5) (v := .pointer (some ⟨g, r.1.i * 3, none⟩)) rfl (by kernel_rfl) (by kernel_rfl) (by kernel_rfl) (fun _ _ _ h => h) (Or.inl ⟨by rfl, ?_⟩) (by assumption) ?_
            · intro w' hSw
              first | (go_simp; done) | rfl
            try simp only [Act.put, la, lb, lc, ld, le, lf]
            refine wpAnyH_take (i := 6) (v := .pointer (some ⟨g, r.1.i * 3 + 2, none⟩)) rfl (by kernel_rfl) (by kernel_rfl) (by kernel_rfl) (fun _ _ _ h => h) (Or.inl ⟨by rfl, ?_⟩) (by assumption) ?_
            · intro w' hSw
              first | (go_simp; done) | rfl
            try simp only [Act.put, la, lb, lc, ld, le, lf]
            refine wpAnyH_take (i := 7) (v := .int .i64 ((tel T r.1.i).a : Int)) rfl (by kernel_rfl) (by kernel_rfl) (by kernel_rfl) (fun _ _ _ h => h) (Or.inl ⟨by rfl, ?_⟩) (by assumption) ?_
            · intro w' hSw
              obtain ⟨s0, s1, s2⟩ := (ToksAt.far HRW.out.toks (hSw g HP3.out.gn)) r.1.i (by rw [HRW.out.len]; exact HRL.out)
              first | (go_simp; done) | rfl
            try simp only [Act.put, la, lb, lc, ld, le, lf]
            refine wpAnyH_ready (rs := [8]) (by kernel_rfl) (by simp) ?_
            refine AllReadyH.cons rfl (fun K hK => ?_) AllReadyH.nil
            have HK2 := Lib.hid hK
            clear hK
            try rw [if_pos (by rfl)]
            refine wp_stP _ _ _ _ _ _ _ w.heap.size _ _ none 0 0 0 0 0 0 ⟨#[]⟩ ⟨#[]⟩ ⟨#[]⟩ none 0 0 _ _ _ _ _ _ _ _ _ rfl rfl (show w4.drew.heap[w.heap.size]? = _ from HX4.out) (fun vb pb => ?_)
            have PB := Lib.hid pb
            clear pb
            refine HK2.out _ _ (fun k hk => (PB.out.off k hk).trans rfl) (fun hHeld => ?_)
            clear HK2
            try simp only [Act.put, la, lb, lc, ld, le, lf]
            clear K
            refine wpAnyH_ready (rs := [9]) (by kernel_rfl) (by simp) ?_
            refine AllReadyH.cons rfl (fun K hK => ?_) AllReadyH.nil
            have HK2 := Lib.hid hK
            clear hK
            go_simp
            refine HK2.out _ _ (fun k hk => (PB.out.off k hk).trans rfl) (fun hHeld => ?_)
            clear HK2
            try simp only [Act.put, la, lb, lc, ld, le, lf]
            clear K
            refine wpAnyH_ready (rs := [10]) (by kernel_rfl) (by simp) ?_
            refine AllReadyH.cons rfl (fun K hK => ?_) AllReadyH.nil
            have HK2 := Lib.hid hK
            clear hK
            go_simp
            refine HK2.out _ _ (fun k hk => (PB.out.off k hk).trans rfl) (fun hHeld => ?_)
            clear HK2
            try simp only [Act.put, la, lb, lc, ld, le, lf]
            clear K
            refine wpAnyH_done (by kernel_rfl) ?_ _
            clear hHeld
            have hr3 := PB.out.here
            obtain ⟨⟨g0, g1, g2, g3, g4, g5, g6, g7, g8⟩, f0, f1, f2, f3, f4, f5, f6, f7, f8⟩ := cells9' hr3
            have rl3 := lt_of_block hr3
            clear hr3
            go_wp2_with (fail)
            refine bodyPost_ret (v := .tuple #[.agg #[.slice none 0 0, .int .u8 0, .int .u8 0, .int .i64 0, .int .i64 0, .string ⟨#[]⟩, .string ⟨#[]⟩, .string ⟨#[]⟩, .slice none 0 0], .int .i64 ((tel T r.1.i).a : Int), .int .i64 2]) (by simp [results, Tryz.results7, go_sem, g0, g1, g2, g3, g4, g5, g6, g7, g8, rl3]) rfl ⟨PB.out.below HBL.out.drew (Nat.le_refl _), .inl ⟨_, _, HRES.out, rfl⟩⟩
          | false =>
            by_cases hk : (tel T r.1.i).k = 6
            · have hres : progRes xs = .good es r.2 := by rw [HRS.out, if_pos ⟨hbd, hk⟩]
              have ek : ((tel T r.1.i).k == 6) = true := by rw [hk]; rfl
              have HRES := Lib.hid hres; have HBD := Lib.hid hbd
              clear hres hbd hk HRS
              have hx := expr_doc g n c T (fuelOf T) wr ⟨i, false⟩ r HP.out.row HP.out.lt HR.out
              have hx' : Calls Tryz.prog 24 #[.agg #[.slice (some ⟨g, 0, none⟩) n c, .int .i64 i, .bool false]] wr (DEnd g n c r wr) := hx
              have hrl : r.1.i < n := expr_n HP.out.row (s := ⟨i, false⟩) HP.out.lt HR.out
              have hri1 : (r.1.i : Int) < (n : Int) := by omega
              have hri0 : (0 : Int) ≤ (r.1.i : Int) := by omega
              have HX := Lib.hid hx'; have HRL := Lib.hid hrl
              clear hx hx' hrl
              go_upto_region 11 with (fail)
              go_wp2_with (fail)
              refine HX.out.mono ?_
              rintro e w2 ⟨h, q, l, d', rfl, hT2, hb2⟩
              have HP2 := Lib.hid (HP.out.call hb2)
              have HO2 := Lib.hid (own_below HO.out hb2)
              have HTF := Lib.hid (TmFr.new hT2)
              have HSZ := Lib.hid HP.out.size
              clear hT2 hb2 HX
              go_upto_region 12 with (first | (refine wpList_stS N 5 56 (some ⟨g, 0, none⟩) n c r.1.i r.1.bad _ _ _ rfl rfl HP2.out.b5 ?_; intro w3 p3; have HP3 := Lib.hid (HP2.out.state (s' := r.1) p3 HRL.out); have HO3 := Lib.hid (own_put HO2.out p3 (by omega)); have HTG := Lib.hid (HTF.out.put p3 (.inl (by have := HSZ.out; omega))); clear p3) | (refine wpList_stT1 (N + 1) 58 57 h.k h.op h.pl h.n h.name h.arg h.exn q l d' _ _ _ _ _ _ _ _ _ rfl rfl HP3.out.b8 ?_; intro w4 p4; have HO4 := Lib.hid (own_put HO3.out p4 (by omega)); have HB5 := Lib.hid (bx_put HP3.out.b5 p4 (by omega)); have HB8 := Lib.hid p4.here; have HB2 := Lib.hid (bx_put HP3.out.b2 p4 (by have := HP3.out.lo; omega)); have HTH := Lib.hid (HTG.out.put p4 (.inl (by have := HSZ.out; omega))); have HBL := Lib.hid (p4.below HP3.out.below (by have := HP3.out.lo; omega)); have HRW := Lib.hid (HP3.out.row.far (p4.off g (by have := HP3.out.gl; omega))); clear p4))
              obtain ⟨⟨x0, x1, x2⟩, y0, y1, y2⟩ := cellsS HB5.out
              have xl := lt_of_block HB5.out
              rw [HBD.out] at x2
              obtain ⟨s0, s1, s2⟩ := HRW.out.toks r.1.i (by rw [HRW.out.len]; exact HRL.out)
              go_upto_region 14 with (fail)
              obtain ⟨⟨z0, z1, z2, z3, z4, z5, z6, z7, z8⟩, -⟩ := cells9' HB8.out
              go_wp2_with (refine wpList_stP w.heap.size 2 79 q0 m0 e0 h.k h.op h.pl h.n h.name h.arg h.exn q l d' _ _ _ _ _ _ _ _ _ rfl rfl HB2.out ?_; intro w5 p5; have P5 := Lib.hid p5; clear p5)
              have hr3 := P5.out.here
              obtain ⟨⟨g0, g1, g2, g3, g4, g5, g6, g7, g8⟩, f0, f1, f2, f3, f4, f5, f6, f7, f8⟩ := cells9' hr3
              have rl3 := lt_of_block hr3
              clear hr3
              have hlo := HP3.out.lo
              have htm := (HTH.out.put P5.out (.inl (by have := HSZ.out; omega))).fresh (B0 := w.heap.size) (by have := HSZ.out; omega)
              have hown := owns_low (own_put HO4.out P5.out (by omega)) (B' := w.heap.size) (by omega)
              refine bodyPost_ret (v := .tuple #[.agg #[.slice q0 m0 e0, .int .u8 h.k, .int .u8 h.op, .int .i64 h.pl, .int .i64 h.n, .string h.name, .string h.arg, .string h.exn, .slice q l d'], .int .i64 0, .int .i64 0]) (by simp [results, Tryz.results7, go_sem, g0, g1, g2, g3, g4, g5, g6, g7, g8, rl3]) rfl ⟨P5.out.below HBL.out (Nat.le_refl _), .inr ⟨es, _, q0, m0, e0, h, q, l, d', HRES.out, rfl, hown, htm⟩⟩
            · have hres : progRes xs = .bad (tel T r.1.i).a 2 := by rw [HRS.out, if_neg (fun h => hk h.2)]
              have ek : ((tel T r.1.i).k == 6) = false := beq_eq_false_iff_ne.2 hk
              have HRES := Lib.hid hres; have HBD := Lib.hid hbd
              clear hres hbd hk HRS
              have hx := expr_doc g n c T (fuelOf T) wr ⟨i, false⟩ r HP.out.row HP.out.lt HR.out
              have hx' : Calls Tryz.prog 24 #[.agg #[.slice (some ⟨g, 0, none⟩) n c, .int .i64 i, .bool false]] wr (DEnd g n c r wr) := hx
              have hrl : r.1.i < n := expr_n HP.out.row (s := ⟨i, false⟩) HP.out.lt HR.out
              have hri1 : (r.1.i : Int) < (n : Int) := by omega
              have hri0 : (0 : Int) ≤ (r.1.i : Int) := by omega
              have HX := Lib.hid hx'; have HRL := Lib.hid hrl
              clear hx hx' hrl
              go_upto_region 11 with (fail)
              go_wp2_with (fail)
              refine HX.out.mono ?_
              rintro e w2 ⟨h, q, l, d', rfl, hT2, hb2⟩
              have HP2 := Lib.hid (HP.out.call hb2)
              have HO2 := Lib.hid (own_below HO.out hb2)
              have HTF := Lib.hid (TmFr.new hT2)
              have HSZ := Lib.hid HP.out.size
              clear hT2 hb2 HX
              go_upto_region 12 with (first | (refine wpList_stS N 5 56 (some ⟨g, 0, none⟩) n c r.1.i r.1.bad _ _ _ rfl rfl HP2.out.b5 ?_; intro w3 p3; have HP3 := Lib.hid (HP2.out.state (s' := r.1) p3 HRL.out); have HO3 := Lib.hid (own_put HO2.out p3 (by omega)); have HTG := Lib.hid (HTF.out.put p3 (.inl (by have := HSZ.out; omega))); clear p3) | (refine wpList_stT1 (N + 1) 58 57 h.k h.op h.pl h.n h.name h.arg h.exn q l d' _ _ _ _ _ _ _ _ _ rfl rfl HP3.out.b8 ?_; intro w4 p4; have HO4 := Lib.hid (own_put HO3.out p4 (by omega)); have HB5 := Lib.hid (bx_put HP3.out.b5 p4 (by omega)); have HB8 := Lib.hid p4.here; have HB2 := Lib.hid (bx_put HP3.out.b2 p4 (by have := HP3.out.lo; omega)); have HTH := Lib.hid (HTG.out.put p4 (.inl (by have := HSZ.out; omega))); have HBL := Lib.hid (p4.below HP3.out.below (by have := HP3.out.lo; omega)); have HRW := Lib.hid (HP3.out.row.far (p4.off g (by have := HP3.out.gl; omega))); clear p4))
              obtain ⟨⟨x0, x1, x2⟩, y0, y1, y2⟩ := cellsS HB5.out
              have xl := lt_of_block HB5.out
              rw [HBD.out] at x2
              obtain ⟨s0, s1, s2⟩ := HRW.out.toks r.1.i (by rw [HRW.out.len]; exact HRL.out)
              go_upto_region 13 with (fail)
              clear s0 s1 s2
              have hini : (∀ k, k ≠ w.heap.size → w4.drew.heap[k]? = w4.heap[k]?) := fun _ _ => rfl
              have hlo := HP3.out.lo
              have HX4 := Lib.hid HB2.out
              refine wp_region_held_drew (S := fun V => ∀ k, k ≠ w.heap.size → V.heap[k]? = w4.heap[k]?) (by kernel_rfl) hini (fun hHeld => ?_)
              clear hini
              refine wpAnyH_take (i := 0) (v := .agg #[.slice none 0 0, .int .u8 0, .int .u8 0, .int .i64 0, .int .i64 0, .string ⟨#[]⟩, .string ⟨#[]⟩, .string ⟨#[]⟩, .slice none 0 0]) rfl (by kernel_rfl) (by kernel_rfl) (by kernel_rfl) (fun _ _ _ h => h) (Or.inl ⟨by rfl, ?_⟩) (by assumption) ?_
              · intro w' hSw
                kernel_rfl
              try simp only [Act.put, la, lb, lc, ld, le, lf]
              refine wpAnyH_take (i := 1) (v := .pointer (some ⟨N, 0, none⟩)) rfl (by kernel_rfl) (by kernel_rfl) (by kernel_rfl) (fun _ _ _ h => h) (Or.inl ⟨by rfl, ?_⟩) (by assumption) ?_
              · intro w' hSw
                first | (go_simp; done) | rfl
              try simp only [Act.put, la, lb, lc, ld, le, lf]
              refine wpAnyH_take (i := 2) (v := .slice (some ⟨g, 0, none⟩) n c) rfl (by kernel_rfl) (by kernel_rfl) (by kernel_rfl) (fun _ _ _ h => h) (Or.inl ⟨by rfl, ?_⟩) (by assumption) ?_
              · intro w' hSw
                obtain ⟨⟨g0, g1, g2⟩, d0, d1, d2⟩ := cellsS ((hSw _ (by omega)).trans HB5.out)
                first | (go_simp; done) | rfl
              try simp only [Act.put, la, lb, lc, ld, le, lf]
              refine wpAnyH_take (i := 3) (v := .pointer (some ⟨N, 1, none⟩)) rfl (by kernel_rfl) (by kernel_rfl) (by kernel_rfl) (fun _ _ _ h => h) (Or.inl ⟨by rfl, ?_⟩) (by assumption) ?_
              · intro w' hSw
                first | (go_simp; done) | rfl
              try simp only [Act.put, la, lb, lc, ld, le, lf]
              refine wpAnyH_take (i := 4) (v := .int .i64 (r.1.i : Int)) rfl (by kernel_rfl) (by kernel_rfl) (by kernel_rfl) (fun _ _ _ h => h) (Or.inl ⟨by rfl, ?_⟩) (by assumption) ?_
              · intro w' hSw
                obtain ⟨⟨g0, g1, g2⟩, d0, d1, d2⟩ := cellsS ((hSw _ (by omega)).trans HB5.out)
                first | (go_simp; done) | rfl
              try simp only [Act.put, la, lb, lc, ld, le, lf]
              refine wpAnyH_take (i := 5) (v := .pointer (some ⟨g, r.1.i * 3, none⟩)) rfl (by kernel_rfl) (by kernel_rfl) (by kernel_rfl) (fun _ _ _ h => h) (Or.inl ⟨by rfl, ?_⟩) (by assumption) ?_
              · intro w' hSw
                first | (go_simp; done) | rfl
              try simp only [Act.put, la, lb, lc, ld, le, lf]
              refine wpAnyH_take (i := 6) (v := .pointer (some ⟨g, r.1.i * 3 + 2, none⟩)) rfl (by kernel_rfl) (by kernel_rfl) (by kernel_rfl) (fun _ _ _ h => h) (Or.inl ⟨by rfl, ?_⟩) (by assumption) ?_
              · intro w' hSw
                first | (go_simp; done) | rfl
              try simp only [Act.put, la, lb, lc, ld, le, lf]
              refine wpAnyH_take (i := 7) (v := .int .i64 ((tel T r.1.i).a : Int)) rfl (by kernel_rfl) (by kernel_rfl) (by kernel_rfl) (fun _ _ _ h => h) (Or.inl ⟨by rfl, ?_⟩) (by assumption) ?_
              · intro w' hSw
                obtain ⟨s0, s1, s2⟩ := (ToksAt.far HRW.out.toks (hSw g HP3.out.gn)) r.1.i (by rw [HRW.out.len]; exact HRL.out)
                first | (go_simp; done) | rfl
              try simp only [Act.put, la, lb, lc, ld, le, lf]
              refine wpAnyH_ready (rs := [8]) (by kernel_rfl) (by simp) ?_
              refine AllReadyH.cons rfl (fun K hK => ?_) AllReadyH.nil
              have HK2 := Lib.hid hK
              clear hK
              try rw [if_pos (by rfl)]
              refine wp_stP _ _ _ _ _ _ _ w.heap.size _ _ none 0 0 0 0 0 0 ⟨#[]⟩ ⟨#[]⟩ ⟨#[]⟩ none 0 0 _ _ _ _ _ _ _ _ _ rfl rfl (show w4.drew.heap[w.heap.size]? = _ from HX4.out) (fun vb pb => ?_)
              have PB := Lib.hid pb
              clear pb
              refine HK2.out _ _ (fun k hk => (PB.out.off k hk).trans rfl) (fun hHeld => ?_)
              clear HK2
              try simp only [Act.put, la, lb, lc, ld, le, lf]
              clear K
              refine wpAnyH_ready (rs := [9]) (by kernel_rfl) (by simp) ?_
              refine AllReadyH.cons rfl (fun K hK => ?_) AllReadyH.nil
              have HK2 := Lib.hid hK
              clear hK
              go_simp
              refine HK2.out _ _ (fun k hk => (PB.out.off k hk).trans rfl) (fun hHeld => ?_)
              clear HK2
              try simp only [Act.put, la, lb, lc, ld, le, lf]
              clear K
              refine wpAnyH_ready (rs := [10]) (by kernel_rfl) (by simp) ?_
              refine AllReadyH.cons rfl (fun K hK => ?_) AllReadyH.nil
              have HK2 := Lib.hid hK
              clear hK
              go_simp
              refine HK2.out _ _ (fun k hk => (PB.out.off k hk).trans rfl) (fun hHeld => ?_)
              clear HK2
              try simp only [Act.put, la, lb, lc, ld, le, lf]
              clear K
              refine wpAnyH_done (by kernel_rfl) ?_ _
              clear hHeld
              have hr3 := PB.out.here
              obtain ⟨⟨g0, g1, g2, g3, g4, g5, g6, g7, g8⟩, f0, f1, f2, f3, f4, f5, f6, f7, f8⟩ := cells9' hr3
              have rl3 := lt_of_block hr3
              clear hr3
              go_wp2_with (fail)
              refine bodyPost_ret (v := .tuple #[.agg #[.slice none 0 0, .int .u8 0, .int .u8 0, .int .i64 0, .int .i64 0, .string ⟨#[]⟩, .string ⟨#[]⟩, .string ⟨#[]⟩, .slice none 0 0], .int .i64 ((tel T r.1.i).a : Int), .int .i64 2]) (by simp [results, Tryz.results7, go_sem, g0, g1, g2, g3, g4, g5, g6, g7, g8, rl3]) rfl ⟨PB.out.below HBL.out.drew (Nat.le_refl _), .inl ⟨_, _, HRES.out, rfl⟩⟩
end Parse
end Go.Proofs.YtadpjkehflokcaaGreatDoor
