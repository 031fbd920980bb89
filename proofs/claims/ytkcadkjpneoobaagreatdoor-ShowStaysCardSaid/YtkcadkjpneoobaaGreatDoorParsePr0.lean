/- A program's box: nine cells. -/
import Derived.Test.YtkcadkjpneoobaaGreatDoorParseD2
import Derived.Test.YtkcadkjpneoobaaGreatDoorGParseJ
import Derived.Test.YtkcadkjpneoobaaGreatDoorParseProgM
import Derived.Test.YtkcadkjpneoobaaGreatDoorGTokA
namespace Go.Proofs.YtkcadkjpneoobaaGreatDoor
open Go.RowKit
set_option linter.unusedVariables false
set_option linter.unusedSimpArgs false
namespace Parse
open Token (Tok tel ToksAt BytesIn LexEnd lex endT tcells tcell)
open Term (Tm Hd TmIs Kids ret_bool ret_i64 Reads veil Flat)

theorem cells9' {W : World} {N : Nat} {a0 a1 a2 a3 a4 a5 a6 a7 a8 : Value} {ty : TypeId} (h : W.heap[N]? = some (.cells #[a0, a1, a2, a3, a4, a5, a6, a7, a8] ty (0, 0))) :
    (W.cell? ⟨N, 0, none⟩ = some a0 ∧ W.cell? ⟨N, 1, none⟩ = some a1 ∧ W.cell? ⟨N, 2, none⟩ = some a2 ∧ W.cell? ⟨N, 3, none⟩ = some a3 ∧ W.cell? ⟨N, 4, none⟩ = some a4 ∧ W.cell? ⟨N, 5, none⟩ = some a5 ∧ W.cell? ⟨N, 6, none⟩ = some a6 ∧ W.cell? ⟨N, 7, none⟩ = some a7 ∧ W.cell? ⟨N, 8, none⟩ = some a8) ∧
    (W.frozen? ⟨N, 0, none⟩ = false ∧ W.frozen? ⟨N, 1, none⟩ = false ∧ W.frozen? ⟨N, 2, none⟩ = false ∧ W.frozen? ⟨N, 3, none⟩ = false ∧ W.frozen? ⟨N, 4, none⟩ = false ∧ W.frozen? ⟨N, 5, none⟩ = false ∧ W.frozen? ⟨N, 6, none⟩ = false ∧ W.frozen? ⟨N, 7, none⟩ = false ∧ W.frozen? ⟨N, 8, none⟩ = false) := by
  simp [World.cell?, World.frozen?, h]
theorem Below.set9 (w W : World) (N : Nat) (hN : w.heap.size ≤ N) (a b c d e f g h i : Value) : Below w.heap.size W (((((((((W.setCell ⟨N, 0, none⟩ a).setCell ⟨N, 1, none⟩ b).setCell ⟨N, 2, none⟩ c).setCell ⟨N, 3, none⟩ d).setCell ⟨N, 4, none⟩ e).setCell ⟨N, 5, none⟩ f).setCell ⟨N, 6, none⟩ g).setCell ⟨N, 7, none⟩ h).setCell ⟨N, 8, none⟩ i) :=
  (((((((((Below.refl _ _).setCell hN _).setCell hN _).setCell hN _).setCell hN _).setCell hN _).setCell hN _).setCell hN _).setCell hN _).setCell hN _
theorem set9_block {W : World} {N : Nat} {c0 c1 c2 c3 c4 c5 c6 c7 c8 a b c d e f g h i : Value} {ty : TypeId} (hN : W.heap[N]? = some (.cells #[c0, c1, c2, c3, c4, c5, c6, c7, c8] ty (0, 0))) :
    (((((((((W.setCell ⟨N, 0, none⟩ a).setCell ⟨N, 1, none⟩ b).setCell ⟨N, 2, none⟩ c).setCell ⟨N, 3, none⟩ d).setCell ⟨N, 4, none⟩ e).setCell ⟨N, 5, none⟩ f).setCell ⟨N, 6, none⟩ g).setCell ⟨N, 7, none⟩ h).setCell ⟨N, 8, none⟩ i).heap[N]? = some (.cells #[a, b, c, d, e, f, g, h, i] ty (0, 0)) := by
  have h0 := set_block (j := 0) (v := a) hN
  rw [show (#[c0, c1, c2, c3, c4, c5, c6, c7, c8] : Array Value).setIfInBounds 0 a = #[a, c1, c2, c3, c4, c5, c6, c7, c8] from rfl] at h0
  have h1 := set_block (j := 1) (v := b) h0
  rw [show (#[a, c1, c2, c3, c4, c5, c6, c7, c8] : Array Value).setIfInBounds 1 b = #[a, b, c2, c3, c4, c5, c6, c7, c8] from rfl] at h1
  have h2 := set_block (j := 2) (v := c) h1
  rw [show (#[a, b, c2, c3, c4, c5, c6, c7, c8] : Array Value).setIfInBounds 2 c = #[a, b, c, c3, c4, c5, c6, c7, c8] from rfl] at h2
  have h3 := set_block (j := 3) (v := d) h2
  rw [show (#[a, b, c, c3, c4, c5, c6, c7, c8] : Array Value).setIfInBounds 3 d = #[a, b, c, d, c4, c5, c6, c7, c8] from rfl] at h3
  have h4 := set_block (j := 4) (v := e) h3
  rw [show (#[a, b, c, d, c4, c5, c6, c7, c8] : Array Value).setIfInBounds 4 e = #[a, b, c, d, e, c5, c6, c7, c8] from rfl] at h4
  have h5 := set_block (j := 5) (v := f) h4
  rw [show (#[a, b, c, d, e, c5, c6, c7, c8] : Array Value).setIfInBounds 5 f = #[a, b, c, d, e, f, c6, c7, c8] from rfl] at h5
  have h6 := set_block (j := 6) (v := g) h5
  rw [show (#[a, b, c, d, e, f, c6, c7, c8] : Array Value).setIfInBounds 6 g = #[a, b, c, d, e, f, g, c7, c8] from rfl] at h6
  have h7 := set_block (j := 7) (v := h) h6
  rw [show (#[a, b, c, d, e, f, g, c7, c8] : Array Value).setIfInBounds 7 h = #[a, b, c, d, e, f, g, h, c8] from rfl] at h7
  have h8 := set_block (j := 8) (v := i) h7
  rw [show (#[a, b, c, d, e, f, g, h, c8] : Array Value).setIfInBounds 8 i = #[a, b, c, d, e, f, g, h, i] from rfl] at h8
  exact h8
theorem set9_other (W : World) (N : Nat) (a b c d e f g h i : Value) (k : Nat) (hk : k ≠ N) : (((((((((W.setCell ⟨N, 0, none⟩ a).setCell ⟨N, 1, none⟩ b).setCell ⟨N, 2, none⟩ c).setCell ⟨N, 3, none⟩ d).setCell ⟨N, 4, none⟩ e).setCell ⟨N, 5, none⟩ f).setCell ⟨N, 6, none⟩ g).setCell ⟨N, 7, none⟩ h).setCell ⟨N, 8, none⟩ i).heap[k]? = W.heap[k]? := by
  rw [Below.heap_setCell _ _ _ _ hk, Below.heap_setCell _ _ _ _ hk, Below.heap_setCell _ _ _ _ hk, Below.heap_setCell _ _ _ _ hk, Below.heap_setCell _ _ _ _ hk, Below.heap_setCell _ _ _ _ hk, Below.heap_setCell _ _ _ _ hk, Below.heap_setCell _ _ _ _ hk, Below.heap_setCell _ _ _ _ hk]
theorem set9_size (W : World) (N : Nat) (a b c d e f g h i : Value) : (((((((((W.setCell ⟨N, 0, none⟩ a).setCell ⟨N, 1, none⟩ b).setCell ⟨N, 2, none⟩ c).setCell ⟨N, 3, none⟩ d).setCell ⟨N, 4, none⟩ e).setCell ⟨N, 5, none⟩ f).setCell ⟨N, 6, none⟩ g).setCell ⟨N, 7, none⟩ h).setCell ⟨N, 8, none⟩ i).heap.size = W.heap.size := by
  simp [World.setCell]
theorem wp_store9 (ps : String) (ty : TypeId) (af : Array Edge) (a : Act) (w : World) (K : Act → World → Prop) (Q : Exit → Act → World → Prop) (N : Nat) (x y : Nat) (q0 : Option Addr) (m0 e0 : Nat) (k op pl nn : Int) (nm ar ex : ByteArray) (p : Option Addr) (l d : Nat) (c0 c1 c2 c3 c4 c5 c6 c7 c8 : Value)
    (hx : a.tmps[x]?.getD undef = .pointer (some ⟨N, 0, none⟩)) (hy : a.tmps[y]?.getD undef = .agg #[.slice q0 m0 e0, .int .u8 k, .int .u8 op, .int .i64 pl, .int .i64 nn, .string nm, .string ar, .string ex, .slice p l d])
    (hc : w.heap[N]? = some (.cells #[c0, c1, c2, c3, c4, c5, c6, c7, c8] 31 (0, 0)))
    (h : K a (((((((((w.setCell ⟨N, 0, none⟩ (.slice q0 m0 e0)).setCell ⟨N, 1, none⟩ (.int .u8 k)).setCell ⟨N, 2, none⟩ (.int .u8 op)).setCell ⟨N, 3, none⟩ (.int .i64 pl)).setCell ⟨N, 4, none⟩ (.int .i64 nn)).setCell ⟨N, 5, none⟩ (.string nm)).setCell ⟨N, 6, none⟩ (.string ar)).setCell ⟨N, 7, none⟩ (.string ex)).setCell ⟨N, 8, none⟩ (.slice p l d))) :
    Oper.wp Tryz.prog { dst := none, op := .store 31 (.tmp x) (.tmp y), type := ty, pos := ps, after := af, guard := none } a w K Q := by
  obtain ⟨⟨g0, g1, g2, g3, g4, g5, g6, g7, g8⟩, e0', e1, e2, e3, e4, e5, e6, e7, e8⟩ := cells9' hc
  have ql := lt_of_block hc
  clear hc
  go_simp
  exact h
/-- What owns a row from a block on, owns it from a lower one on. -/
theorem owns_low {w : World} {B B' : Nat} {ty : TypeId} {k n : Nat} {v : Value} {xs : List Value} (h : w.ownsRow B ty k v n xs) (hB : B' ≤ B) : w.ownsRow B' ty k v n xs :=
  ⟨h.1, h.2.elim .inl fun ⟨g, cap, cur, h1, h2, h3⟩ => .inr ⟨g, cap, cur, h1, Nat.le_trans hB h2, h3⟩⟩
/-- A row stays, where its block does. -/
theorem owns_keep {w W : World} {B : Nat} {ty : TypeId} {k n : Nat} {v : Value} {xs : List Value} (h : w.ownsRow B ty k v n xs) (hk : ∀ b, B ≤ b → b < w.heap.size → W.heap[b]? = w.heap[b]?) : W.ownsRow B ty k v n xs :=
  ⟨h.1, h.2.elim .inl fun ⟨g, cap, cur, h1, h2, h3, h4⟩ => .inr ⟨g, cap, cur, h1, h2, (hk g h2 (lt_of_block h3)).trans h3, h4⟩⟩
theorem owns_off {w W : World} {B P : Nat} {ty : TypeId} {k n : Nat} {v : Value} {xs : List Value} (h : w.ownsRow B ty k v n xs) (hP : P < B) (ho : Off P w W) : W.ownsRow B ty k v n xs :=
  owns_keep h fun b h1 h2 => ho.block b h2 (by omega)
theorem owns_slice {w : World} {B : Nat} {ty : TypeId} {k n : Nat} {v : Value} {xs : List Value} (h : w.ownsRow B ty k v n xs) : ∃ q m e, v = .slice q m e := by
  rcases h.2 with ⟨rfl, _⟩ | ⟨g, cap, cur, rfl, _⟩
  · exact ⟨_, _, _, rfl⟩
  · exact ⟨_, _, _, rfl⟩
/-- How program ends. -/
def ProgEnd (P g n c : Nat) (ts es : List Tok) (r : St × Tm) (w : World) (e : Ending) (w' : World) : Prop :=
  (r.1.bad = false ∧ (∃ q m d0 h p l d, e = .returned (.agg #[.slice q m d0, .int .u8 h.k, .int .u8 h.op, .int .i64 h.pl, .int .i64 h.n, .string h.name, .string h.arg, .string h.exn, .slice p l d]) ∧ w'.ownsRow w.heap.size 45 3 (.slice q m d0) es.length (tcells es) ∧ TmIs (fresh w.heap.size w') h p l d r.2) ∧ Off P w w' ∧ PR w' P g n c r.1.i ts) ∨
  (r.1.bad = true ∧ e = thrown (tel ts r.1.i) ∧ Off P w w')
/-- How Parse ends. -/
def ProgRet (res : QRes) (w : World) (e : Ending) (w' : World) : Prop :=
  Below w.heap.size w w' ∧
  ((∃ a k, res = .bad a k ∧ e = .returned (.tuple #[.agg #[.slice none 0 0, .int .u8 0, .int .u8 0, .int .i64 0, .int .i64 0, .string ⟨#[]⟩, .string ⟨#[]⟩, .string ⟨#[]⟩, .slice none 0 0], .int .i64 a, .int .i64 k])) ∨
   (∃ es t q m d0 h p l d, res = .good es t ∧ e = .returned (.tuple #[.agg #[.slice q m d0, .int .u8 h.k, .int .u8 h.op, .int .i64 h.pl, .int .i64 h.n, .string h.name, .string h.arg, .string h.exn, .slice p l d], .int .i64 0, .int .i64 0]) ∧ w'.ownsRow w.heap.size 45 3 (.slice q m d0) es.length (tcells es) ∧ TmIs (fresh w.heap.size w') h p l d t))
end Parse
end Go.Proofs.YtkcadkjpneoobaaGreatDoor
