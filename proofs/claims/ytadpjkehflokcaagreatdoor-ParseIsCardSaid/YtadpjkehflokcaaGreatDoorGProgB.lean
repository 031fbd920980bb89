/-The program's reading of a text: what was thrown is caught (programs). A program's box: nine cells. The program's reading of a program: the method. -/
import Derived.Test.YtadpjkehflokcaaGreatDoorGParseH
import Derived.Defers
import Derived.Recover
import Derived.Test.YtadpjkehflokcaaGreatDoorGParseJ
import Derived.Test.YtadpjkehflokcaaGreatDoorGProgA
import Derived.Test.YtadpjkehflokcaaGreatDoorGTokA
namespace Go.Proofs.YtadpjkehflokcaaGreatDoor
open Go.RowKit
set_option linter.unusedVariables false
set_option linter.unusedSimpArgs false
namespace Parse
open Token (Tok tel ToksAt)
open Term (Tm Hd TmIs Kids ret_bool ret_i64 Reads veil Flat tcells)

theorem catchP_idle (p q : Addr) (w : World) :
    CallsD Tryz.prog 40 #[.pointer (some p), .pointer (some q)] .returning w fun e u' w' => e = .returned (.tuple #[]) ∧ u' = .returning ∧ w' = w := by
  refine callsD_of_wpS Tryz.func40 rfl fun c₀ cs hu => ?_
  apply wpS_seq
  apply wpS_region
  simp [wpOpsS, go_sem, recoverD, hu, Tryz.ntmps40, Exit.thenS]
  refine wpS_of_wp ?_
  have hnil : ∀ w : World, (binOp BinOp.eql 20 .nilIface .nilIface).run Tryz.prog w = .ok (.bool true) w := fun _ => by kernel_rfl
  go_wp2
  cases c₀
  simp_all [bodyPostS, results, Tryz.results40]

set_option maxRecDepth 100000 in
set_option maxHeartbeats 1600000 in
theorem catchP_stray (N1 N2 : Nat) (t : Tok) (x y : Int) (w : World) (hp : w.cell? ⟨N1, 0, none⟩ = some (.int .i64 x)) (hq : w.cell? ⟨N2, 0, none⟩ = some (.int .i64 y)) (hp0 : w.frozen? ⟨N1, 0, none⟩ = false) (hq0 : w.frozen? ⟨N2, 0, none⟩ = false) (hpq : ¬ N1 = N2) (hqp : ¬ N2 = N1) (hpl : N1 < w.heap.size) (hql : N2 < w.heap.size) :
    CallsD Tryz.prog 40 #[.pointer (some ⟨N1, 0, none⟩), .pointer (some ⟨N2, 0, none⟩)] (.panicking [{ v := strayV t, recovered := false }]) w fun e u' w' => e = .returned (.tuple #[]) ∧ u' = .panicking [{ v := strayV t, recovered := true }] ∧ w' = ((w.setCell ⟨N1, 0, none⟩ (.int .i64 t.a)).setCell ⟨N2, 0, none⟩ (.int .i64 2)).alloc (.cells #[.int .u8 t.k, .string t.s, .int .i64 t.a] 84) := by
  refine callsD_of_wpS Tryz.func40 rfl fun c₀ cs hu => ?_
  unfold strayV at hu ⊢
  apply wpS_seq
  apply wpS_region
  simp [wpOpsS, go_sem, recoverD, hu, Tryz.ntmps40, Exit.thenS]
  refine wpS_of_wp ?_
  have hnil : ∀ w : World, (binOp BinOp.eql 20 (.iface 84 (.agg #[.int .u8 t.k, .string t.s, .int .i64 t.a])) .nilIface).run Tryz.prog w = .ok (.bool false) w := fun _ => by kernel_rfl
  have hta : ∀ w : World, (Instr.typeAssert (.iface 84 (.agg #[.int .u8 t.k, .string t.s, .int .i64 t.a])) 20 84 true).run Tryz.prog w = .ok (.tuple #[.agg #[.int .u8 t.k, .string t.s, .int .i64 t.a], .bool true]) w := fun _ => by kernel_rfl
  go_wp2
  simp [bodyPostS, results, Tryz.results40]
end Parse
end Go.Proofs.YtadpjkehflokcaaGreatDoor
namespace Go.Proofs.YtadpjkehflokcaaGreatDoor
open Go.RowKit
set_option linter.unusedVariables false
set_option linter.unusedSimpArgs false
namespace Parse
open Token (Tok tel ToksAt BytesIn LexEnd lex endT tcells tcell)
open Term (Tm Hd TmIs Kids ret_bool ret_i64 Reads veil Flat)

theorem cells9' {W : World} {N : Nat} {a0 a1 a2 a3 a4 a5 a6 a7 a8 : Value} {ty : TypeId} (h : W.heap[N]? = some (.cells #[a0, a1, a2, a3, a4, a5, a6, a7, a8] ty (0, 0))) :
    (W.cell? ⟨N, 0, none⟩ = some a0 ∧ W.cell? ⟨N, 1, none⟩ = some a1 ∧ W.cell? ⟨N, 2, none⟩ = some a2 ∧ W.cell? ⟨N, 3, none⟩ = some a3 ∧ W.cell? ⟨N, 4, none⟩ = some a4 ∧ W.cell? ⟨N, 5, none⟩ = some a5 ∧ W.cell? ⟨N, 6, none⟩ = some a6 ∧ W.cell? ⟨N, 7, none⟩ = some a7 ∧ W.cell? ⟨N, 8, none⟩ = some a8) ∧
    (W.frozen? ⟨N, 0, none⟩ = false ∧ W.frozen? ⟨N, 1, none⟩ = false ∧ W.frozen? ⟨N, 2, none⟩ = false ∧ W.frozen? ⟨N, 3, none⟩ = false ∧ W.frozen? ⟨N, 4, none⟩ = false ∧ W.frozen? ⟨N, 5, none⟩ = false ∧ W.frozen? ⟨N, 6, none⟩ = false ∧ W.frozen? ⟨N, 7, none⟩ = false ∧ W.frozen? ⟨N, 8, none⟩ = false) := by
  simp [World.cell?, World.frozen?, h]
theorem Below.set9 (w W : World) (N : Nat) (hN : w.heap.size ≤ N) (a b c d e f g h i : Value) : Below w.heap.size W (((((((((W.setCell ⟨N, 0, none⟩ a).setCell ⟨N, 1, none⟩ b).setCell ⟨N, 2, none⟩ c).setCell ⟨N, 3, none⟩ d).setCell ⟨N, 4, none⟩ e).setCell ⟨N, 5, none⟩ f).setCell ⟨N, 6, none⟩ g).setCell ⟨N, 7, none⟩ h).setCell ⟨N, 8, none⟩ i) :=
  (((((((((Below.refl _ _).setCell hN _).setCell hN _).setCell hN _).setCell hN _).setCell hN _).setCell hN _).setCell hN _).setCell hN _).setCell hN _
theorem set9_block {W : World} {N : Nat} {c0 c1 c2 c3 c4 c5 c6 c7 c8 a b c d e f g h i : Value} {ty : TypeId} (hN : W.heap[N]? = some (.cells #[c0, c1, c2, c3, c4, c5, c6, c7, c8] ty (0, 0))) :
    (((((((((W.setCell ⟨N, 0, none⟩ a).setCell ⟨N, 1, none⟩ b).setCell ⟨N, 2, none⟩ c).setCell ⟨N, 3, none⟩ d).setCell ⟨N, 4, none⟩ e).setCell ⟨N, 5, none⟩ f).setCell ⟨N, 6, none⟩ g).setCell ⟨N, 7, none⟩ h).setCell ⟨N, 8, none⟩ i).heap[N]? = some (.cells #[a, b, c, d, e, f, g, h, i] ty (0, 0)) := by
  have h0 := set_block (j := 0) (v := a) hN
  rw [show (#[c0, c1, c2, c3, c4, c5, c6, c7, c8] : Array Value).setIfInBounds 0 a = #[a, c1, c2, c3, c4, c5, c6, c7, c8] from rfl] at h0
  have h1 := set_block (j := 1) (v := b) h0
  rw [show (#[a, c1, c2, c3, c4, c5, c6, c7, c8] : Array Value).setIfInBounds 1 b = #[a, b, c2, c3, c4, c5, c6, c7, c8] from rfl] at h1
  have h2 := set_block (j := 2) (v := c) h1
  rw [show (#[a, b, c2, c3, c4, c5, c6, c7, c8] : Array Value).setIfInBounds 2 c = #[a, b, c, c3, c4, c5, c6, c7, c8] from rfl] at h2
  have h3 := set_block (j := 3) (v := d) h2
  rw [show (#[a, b, c, c3, c4, c5, c6, c7, c8] : Array Value).setIfInBounds 3 d = #[a, b, c, d, c4, c5, c6, c7, c8] from rfl] at h3
  have h4 := set_block (j := 4) (v := e) h3
  rw [show (#[a, b, c, d, c4, c5, c6, c7, c8] : Array Value).setIfInBounds 4 e = #[a, b, c, d, e, c5, c6, c7, c8] from rfl] at h4
  have h5 := set_block (j := 5) (v := f) h4
  rw [show (#[a, b, c, d, e, c5, c6, c7, c8] : Array Value).setIfInBounds 5 f = #[a, b, c, d, e, f, c6, c7, c8] from rfl] at h5
  have h6 := set_block (j := 6) (v := g) h5
  rw [show (#[a, b, c, d, e, f, c6, c7, c8] : Array Value).setIfInBounds 6 g = #[a, b, c, d, e, f, g, c7, c8] from rfl] at h6
  have h7 := set_block (j := 7) (v := h) h6
  rw [show (#[a, b, c, d, e, f, g, c7, c8] : Array Value).setIfInBounds 7 h = #[a, b, c, d, e, f, g, h, c8] from rfl] at h7
  have h8 := set_block (j := 8) (v := i) h7
  rw [show (#[a, b, c, d, e, f, g, h, c8] : Array Value).setIfInBounds 8 i = #[a, b, c, d, e, f, g, h, i] from rfl] at h8
  exact h8
theorem set9_other (W : World) (N : Nat) (a b c d e f g h i : Value) (k : Nat) (hk : k ≠ N) : (((((((((W.setCell ⟨N, 0, none⟩ a).setCell ⟨N, 1, none⟩ b).setCell ⟨N, 2, none⟩ c).setCell ⟨N, 3, none⟩ d).setCell ⟨N, 4, none⟩ e).setCell ⟨N, 5, none⟩ f).setCell ⟨N, 6, none⟩ g).setCell ⟨N, 7, none⟩ h).setCell ⟨N, 8, none⟩ i).heap[k]? = W.heap[k]? := by
  rw [Below.heap_setCell _ _ _ _ hk, Below.heap_setCell _ _ _ _ hk, Below.heap_setCell _ _ _ _ hk, Below.heap_setCell _ _ _ _ hk, Below.heap_setCell _ _ _ _ hk, Below.heap_setCell _ _ _ _ hk, Below.heap_setCell _ _ _ _ hk, Below.heap_setCell _ _ _ _ hk, Below.heap_setCell _ _ _ _ hk]
theorem set9_size (W : World) (N : Nat) (a b c d e f g h i : Value) : (((((((((W.setCell ⟨N, 0, none⟩ a).setCell ⟨N, 1, none⟩ b).setCell ⟨N, 2, none⟩ c).setCell ⟨N, 3, none⟩ d).setCell ⟨N, 4, none⟩ e).setCell ⟨N, 5, none⟩ f).setCell ⟨N, 6, none⟩ g).setCell ⟨N, 7, none⟩ h).setCell ⟨N, 8, none⟩ i).heap.size = W.heap.size := by
  simp [World.setCell]
theorem wp_store9 (ps : String) (ty : TypeId) (af : Array Edge) (a : Act) (w : World) (K : Act → World → Prop) (Q : Exit → Act → World → Prop) (N : Nat) (x y : Nat) (q0 : Option Addr) (m0 e0 : Nat) (k op pl nn : Int) (nm ar ex : ByteArray) (p : Option Addr) (l d : Nat) (c0 c1 c2 c3 c4 c5 c6 c7 c8 : Value)
    (hx : a.tmps[x]?.getD undef = .pointer (some ⟨N, 0, none⟩)) (hy : a.tmps[y]?.getD undef = .agg #[.slice q0 m0 e0, .int .u8 k, .int .u8 op, .int .i64 pl, .int .i64 nn, .string nm, .string ar, .string ex, .slice p l d])
    (hc : w.heap[N]? = some (.cells #[c0, c1, c2, c3, c4, c5, c6, c7, c8] 31 (0, 0)))
    (h : K a (((((((((w.setCell ⟨N, 0, none⟩ (.slice q0 m0 e0)).setCell ⟨N, 1, none⟩ (.int .u8 k)).setCell ⟨N, 2, none⟩ (.int .u8 op)).setCell ⟨N, 3, none⟩ (.int .i64 pl)).setCell ⟨N, 4, none⟩ (.int .i64 nn)).setCell ⟨N, 5, none⟩ (.string nm)).setCell ⟨N, 6, none⟩ (.string ar)).setCell ⟨N, 7, none⟩ (.string ex)).setCell ⟨N, 8, none⟩ (.slice p l d))) :
    Oper.wp Tryz.prog { dst := none, op := .store 31 (.tmp x) (.tmp y), type := ty, pos := ps, after := af, guard := none } a w K Q := by
  obtain ⟨⟨g0, g1, g2, g3, g4, g5, g6, g7, g8⟩, e0', e1, e2, e3, e4, e5, e6, e7, e8⟩ := cells9' hc
  have ql := lt_of_block hc
  clear hc
  go_simp
  exact h
/-- What owns a row from a block on, owns it from a lower one on. -/
theorem owns_low {w : World} {B B' : Nat} {ty : TypeId} {k n : Nat} {v : Value} {xs : List Value} (h : w.ownsRow B ty k v n xs) (hB : B' ≤ B) : w.ownsRow B' ty k v n xs :=
  ⟨h.1, h.2.elim .inl fun ⟨g, cap, cur, h1, h2, h3⟩ => .inr ⟨g, cap, cur, h1, Nat.le_trans hB h2, h3⟩⟩
/-- A row stays, where its block does. -/
theorem owns_keep {w W : World} {B : Nat} {ty : TypeId} {k n : Nat} {v : Value} {xs : List Value} (h : w.ownsRow B ty k v n xs) (hk : ∀ b, B ≤ b → b < w.heap.size → W.heap[b]? = w.heap[b]?) : W.ownsRow B ty k v n xs :=
  ⟨h.1, h.2.elim .inl fun ⟨g, cap, cur, h1, h2, h3, h4⟩ => .inr ⟨g, cap, cur, h1, h2, (hk g h2 (lt_of_block h3)).trans h3, h4⟩⟩
theorem owns_off {w W : World} {B P : Nat} {ty : TypeId} {k n : Nat} {v : Value} {xs : List Value} (h : w.ownsRow B ty k v n xs) (hP : P < B) (ho : Off P w W) : W.ownsRow B ty k v n xs :=
  owns_keep h fun b h1 h2 => ho.block b h2 (by omega)
theorem owns_slice {w : World} {B : Nat} {ty : TypeId} {k n : Nat} {v : Value} {xs : List Value} (h : w.ownsRow B ty k v n xs) : ∃ q m e, v = .slice q m e := by
  rcases h.2 with ⟨rfl, _⟩ | ⟨g, cap, cur, rfl, _⟩
  · exact ⟨_, _, _, rfl⟩
  · exact ⟨_, _, _, rfl⟩
/-- How program ends. -/
def ProgEnd (P g n c : Nat) (ts es : List Tok) (r : St × Tm) (w : World) (e : Ending) (w' : World) : Prop :=
  (r.1.bad = false ∧ (∃ q m d0 h p l d, e = .returned (.agg #[.slice q m d0, .int .u8 h.k, .int .u8 h.op, .int .i64 h.pl, .int .i64 h.n, .string h.name, .string h.arg, .string h.exn, .slice p l d]) ∧ w'.ownsRow w.heap.size 46 3 (.slice q m d0) es.length (tcells es) ∧ TmIs (fresh w.heap.size w') h p l d r.2) ∧ Off P w w' ∧ PR w' P g n c r.1.i ts) ∨
  (r.1.bad = true ∧ e = thrown (tel ts r.1.i) ∧ Off P w w')
/-- How Parse ends. -/
def ProgRet (res : QRes) (w : World) (e : Ending) (w' : World) : Prop :=
  Below w.heap.size w w' ∧
  ((∃ a k, res = .bad a k ∧ e = .returned (.tuple #[.agg #[.slice none 0 0, .int .u8 0, .int .u8 0, .int .i64 0, .int .i64 0, .string ⟨#[]⟩, .string ⟨#[]⟩, .string ⟨#[]⟩, .slice none 0 0], .int .i64 a, .int .i64 k])) ∨
   (∃ es t q m d0 h p l d, res = .good es t ∧ e = .returned (.tuple #[.agg #[.slice q m d0, .int .u8 h.k, .int .u8 h.op, .int .i64 h.pl, .int .i64 h.n, .string h.name, .string h.arg, .string h.exn, .slice p l d], .int .i64 0, .int .i64 0]) ∧ w'.ownsRow w.heap.size 46 3 (.slice q m d0) es.length (tcells es) ∧ TmIs (fresh w.heap.size w') h p l d t))
end Parse
end Go.Proofs.YtadpjkehflokcaaGreatDoor
namespace Go.Proofs.YtadpjkehflokcaaGreatDoor
open Go.RowKit
set_option linter.unusedVariables false
set_option linter.unusedSimpArgs false
namespace Parse
open Token (Tok tel ToksAt BytesIn LexEnd lex endT tcells tcell infoTok three_new own_below tcells_snoc)
open Term (Tm Hd TmIs Kids ret_bool ret_i64 Reads veil Flat)

theorem one_exn (w : World) (P g n c i : Nat) (ts : List Tok) (h : PR w P g n c i ts) (t : TypeId) :
    Calls Tryz.prog 45 #[.pointer (some ⟨P, 0, none⟩), .slice (some ⟨w.heap.size, 0, none⟩) 1 1] (w.alloc (.cells #[.int .u8 3] t)) fun e w' =>
      ((tel ts i).k = 3 ∧ e = .returned (tokV (tel ts i)) ∧ Off P w w' ∧ PR w' P g n c (i + 1) ts) ∨ ((tel ts i).k ≠ 3 ∧ e = thrown (tel ts i) ∧ Off P w w') := by
  have hbox : ∀ O : Obj, Below w.heap.size w (w.alloc O) := fun O => (Below.refl _ _).alloc (Nat.le_refl _) O
  exact (one_walk (w.alloc (.cells #[.int .u8 3] t)) P g n c i ts (some ⟨w.heap.size, 0, none⟩) 1 1 [3] (h.below (hbox _)) rfl (by unfold maxLen; omega) (fun W hb => by
    have := bytes_alloc w t [3]
    rcases this with hh | ⟨b, o, e, hc⟩
    · cases hh
    · exact .inr ⟨b, o, e, fun j hj => (hb.cell (p := ⟨b, o + j, none⟩) (World.block_lt_of_cell? _ _ (hc j hj))).trans (hc j hj)⟩) (by decide)).mono (fun e w' he => one_name rfl he)
theorem is_exn (w : World) (P g n c i : Nat) (ts : List Tok) (h : PR w P g n c i ts) (t : TypeId) :
    Calls Tryz.prog 43 #[.pointer (some ⟨P, 0, none⟩), .slice (some ⟨w.heap.size, 0, none⟩) 1 1] (w.alloc (.cells #[.string ⟨#[101, 120, 110]⟩] t)) fun e w' =>
      e = .returned (.bool (decide (textOf ts i = wExn))) ∧ Below w.heap.size w w' := by
  have hbox : ∀ O : Obj, Below w.heap.size w (w.alloc O) := fun O => (Below.refl _ _).alloc (Nat.le_refl _) O
  refine (is_walk (w.alloc (.cells #[.string wExn] t)) P g n c i ts (some ⟨w.heap.size, 0, none⟩) 1 1 [wExn] (h.below (hbox _)) rfl (by unfold maxLen; omega) (strs_alloc w t [wExn]) (fun y hy => by rw [List.mem_singleton] at hy; rw [hy]; simp [wordsL])).mono ?_
  rintro e w' ⟨rfl, hb⟩
  refine ⟨?_, (hbox _).trans (hb.mono (by simp))⟩
  have : inF [wExn] (textOf ts i) = decide (textOf ts i = wExn) := by
    unfold inF
    simp only [List.any_cons, List.any_nil, Bool.or_false]
    exact decide_eq_decide.2 ⟨fun h => h.symm, fun h => h.symm⟩
  rw [this]
theorem exns_no {T : List Tok} {i : Nat} (h : textOf T i = wExn) (h1 : (tel T (i + 1)).k ≠ 3) (n : Nat) : exnsF T (n + 1) ⟨i, false⟩ = ([], ⟨i + 1, true⟩) := by
  have e : wantF T (getF T (wantF T ⟨i, false⟩ wExn) 3) wSemi = ⟨i + 1, true⟩ := by
    rw [want_ok h]
    unfold getF
    rw [if_pos (.inr h1)]
    unfold wantF
    rw [if_pos (.inl rfl)]
  rw [exnsF, if_neg (fun hc => hc.elim (fun hb => by cases hb) (fun hb => hb h)), e, if_pos rfl]
theorem exns_semi {T : List Tok} {i : Nat} (h : textOf T i = wExn) (h1 : (tel T (i + 1)).k = 3) (h2 : textOf T (i + 2) ≠ wSemi) (n : Nat) : exnsF T (n + 1) ⟨i, false⟩ = ([], ⟨i + 2, true⟩) := by
  have e : wantF T (getF T (wantF T ⟨i, false⟩ wExn) 3) wSemi = ⟨i + 2, true⟩ := by
    rw [want_ok h, (get_yes h1).1, want_no h2]
  rw [exnsF, if_neg (fun hc => hc.elim (fun hb => by cases hb) (fun hb => hb h)), e, if_pos rfl]

def lenV : Value → Nat
  | .slice _ m _ => m
  | _ => 0
theorem lenV_owns {w : World} {B : Nat} {ty : TypeId} {k n : Nat} {v : Value} {xs : List Value} (h : w.ownsRow B ty k v n xs) : lenV v = n := by
  rcases h.2 with ⟨rfl, rfl⟩ | ⟨g, cap, cur, rfl, _⟩ <;> rfl
theorem wExn_in : wExn ∈ wordsL := by simp [wordsL]
theorem wSemi_in : wSemi ∈ wordsL := by simp [wordsL]
/-- What a round of it knows: where it stands, and which exceptions were taken. -/
structure PrAt (w : World) (P g n c : Nat) (T : List Tok) (v : Value) (j : Nat) (es : List Tok) (wr : World) : Prop where
  many : 3 * es.length ≤ j
  own : wr.ownsRow (w.heap.size + 1) 46 3 v es.length (tcells es)
  off : Off P w wr
  box : wr.heap[w.heap.size]? = some (.cells #[.slice none 0 0, .int .u8 0, .int .u8 0, .int .i64 0, .int .i64 0, .string ⟨#[]⟩, .string ⟨#[]⟩, .string ⟨#[]⟩, .slice none 0 0] 31 (0, 0))
  pr : PR wr P g n c j T
  eq : exnsF T T.length ⟨0, false⟩ = (es ++ (exnsF T (T.length - es.length) ⟨j, false⟩).1, (exnsF T (T.length - es.length) ⟨j, false⟩).2)
theorem PrAt.below {w wr W : World} {P g n c j : Nat} {T es : List Tok} {v : Value} (h : PrAt w P g n c T v j es wr) (hb : Below wr.heap.size wr W) : PrAt w P g n c T v j es W :=
  ⟨h.many, own_below h.own hb, h.off.trans (Off.of_below hb), (hb.block _ (lt_of_block h.box)).trans h.box, h.pr.below hb, h.eq⟩
theorem PrAt.fuel {w wr : World} {P g n c j : Nat} {T es : List Tok} {v : Value} (h : PrAt w P g n c T v j es wr) : ∃ k, T.length - es.length = k + 1 := by
  have := h.many; have := h.pr.lt; have := h.pr.row.len
  exact ⟨T.length - es.length - 1, by omega⟩
theorem PrAt.no {w wr : World} {P g n c j : Nat} {T es : List Tok} {v : Value} (h : PrAt w P g n c T v j es wr) (h1 : textOf T j = wExn) (h2 : (tel T (j + 1)).k ≠ 3) : exnsF T T.length ⟨0, false⟩ = (es, ⟨j + 1, true⟩) := by
  obtain ⟨k, hk⟩ := h.fuel
  rw [h.eq, hk, exns_no h1 h2, List.append_nil]
theorem PrAt.semi {w wr : World} {P g n c j : Nat} {T es : List Tok} {v : Value} (h : PrAt w P g n c T v j es wr) (h1 : textOf T j = wExn) (h2 : (tel T (j + 1)).k = 3) (h3 : textOf T (j + 2) ≠ wSemi) : exnsF T T.length ⟨0, false⟩ = (es, ⟨j + 2, true⟩) := by
  obtain ⟨k, hk⟩ := h.fuel
  rw [h.eq, hk, exns_semi h1 h2 h3, List.append_nil]
theorem PrAt.stop {w wr : World} {P g n c j : Nat} {T es : List Tok} {v : Value} (h : PrAt w P g n c T v j es wr) (h1 : textOf T j ≠ wExn) : exnsF T T.length ⟨0, false⟩ = (es, ⟨j, false⟩) := by
  rw [h.eq, exns_stop h1, List.append_nil]
theorem PrAt.next {w wr W : World} {P g n c j : Nat} {T es : List Tok} {v v' : Value} (h : PrAt w P g n c T v j es wr) (h1 : textOf T j = wExn) (h2 : (tel T (j + 1)).k = 3) (h3 : textOf T (j + 2) = wSemi)
    (hown : W.ownsRow (w.heap.size + 1) 46 3 v' (es.length + 1) (tcells es ++ tcell (tel T (j + 1)))) (ho : Off P w W)
    (hbox : W.heap[w.heap.size]? = some (.cells #[.slice none 0 0, .int .u8 0, .int .u8 0, .int .i64 0, .int .i64 0, .string ⟨#[]⟩, .string ⟨#[]⟩, .string ⟨#[]⟩, .slice none 0 0] 31 (0, 0))) (hp : PR W P g n c (j + 3) T) :
    PrAt w P g n c T v' (j + 3) (es ++ [tel T (j + 1)]) W := by
  obtain ⟨k, hk⟩ := h.fuel
  refine ⟨by have := h.many; simp; omega, ?_, ho, hbox, hp, ?_⟩
  · rw [List.length_append, tcells_snoc]; exact hown
  · rw [h.eq, hk, exns_step h1 h2 h3]
    have : T.length - (es ++ [tel T (j + 1)]).length = k := by rw [List.length_append]; simp; omega
    rw [this, List.append_assoc]
    rfl
theorem prog_bad_end {P g n c : Nat} {T es : List Tok} {r : St × Tm} {w W : World} {i m : Nat} (hx : exnsF T T.length ⟨0, false⟩ = (es, ⟨i, true⟩)) (hr : exprF T m (exnsF T T.length ⟨0, false⟩).2 = some r) (ho : Off P w W) :
    ProgEnd P g n c T (exnsF T T.length ⟨0, false⟩).1 r w (.panicked [{ v := .iface 84 (.agg #[.int .u8 (tel T i).k, .string (tel T i).s, .int .i64 (tel T i).a]), recovered := false }]) W := by
  rw [hx] at hr
  have e := expr_bad T (s := ⟨i, true⟩) rfl hr
  exact .inr ⟨by rw [e], by rw [e]; rfl, ho⟩

set_option maxRecDepth 100000 in
set_option maxHeartbeats 12800000 in
theorem prog_walk (m : Nat) (w : World) (P g n c : Nat) (T : List Tok) (r : St × Tm) (h : PR w P g n c 0 T) (hL : Lay w P) (hn : n ≤ 70000) (hr : exprF T m (exnsF T T.length ⟨0, false⟩).2 = some r) :
    Calls Tryz.prog 19 #[.pointer (some ⟨P, 0, none⟩)] w (ProgEnd P g n c T (exnsF T T.length ⟨0, false⟩).1 r w) := by
  obtain ⟨i0, hi, hz0, hz1, hz2⟩ := info_parts infoTok
  have HI := Lib.hid hi; have HZ0 := Lib.hid hz0; have HZ1 := Lib.hid hz1; have HZ2 := Lib.hid hz2
  have hold := h.old
  have hstart : PrAt w P g n c T (.slice none 0 0) 0 [] (w.alloc (.cells #[.slice none 0 0, .int .u8 0, .int .u8 0, .int .i64 0, .int .i64 0, .string ⟨#[]⟩, .string ⟨#[]⟩, .string ⟨#[]⟩, .slice none 0 0] 31)) :=
    ⟨by simp, World.ownsRow_nil _ _ _ _, (Off.refl P w).alloc _, heap_alloc_new w _, h.below ((Below.refl _ _).alloc (Nat.le_refl _) _), by rw [List.nil_append]; rfl⟩
  have HST := Lib.hid hstart; have HL := Lib.hid hL; have HR := Lib.hid hr; have HOLD := Lib.hid hold; have HN := Lib.hid hn
  clear hi hz0 hz1 hz2 hr hold h hL hn hstart
  go_enter Tryz.func19, Tryz.ntmps19
  go_wp2_with (fail)
  go_loopw [3] (fun v wr => ∃ (j : Nat) (es : List Tok), Hid (PrAt w P g n c T v j es wr)) (fun v _ => n - lenV v)
  case atStart => exact ⟨0, [], HST⟩
  case round =>
    obtain ⟨j, es, HA⟩ := hrel
    obtain ⟨q0, m0, e0, rfl⟩ := owns_slice HA.out.own
    have hlv := lenV_owns HA.out.own
    have HLV := Lib.hid hlv
    clear hlv
    have his := is_exn wr P g n c j T HA.out.pr
    have HIS := Lib.hid his
    clear his
    go_wp2_with (fail)
    refine (HIS.out _).mono ?_
    rintro e w1 ⟨rfl, hb1⟩
    have HA1 := Lib.hid (HA.out.below hb1)
    clear hb1 HIS HA
    by_cases ht : textOf T j = wExn
    · rw [decide_eq_true ht]
      have hne := text_not_end wExn_in ht
      have htk := take_walk w1 P g n c j T HA1.out.pr (HA1.out.pr.more hne)
      have HTK := Lib.hid htk; have HT := Lib.hid ht; have HNE := Lib.hid hne
      unfold tokV at HTK
      clear htk ht hne
      go_wp2_with (fail)
      refine HTK.out.mono ?_
      rintro e w2 ⟨rfl, ho2, hp2⟩
      have HP2 := Lib.hid (HA1.out.pr.next ho2 hp2 HNE.out)
      have hone := one_exn w2 P g n c (j + 1) T HP2.out
      have HON := Lib.hid hone; have HO2 := Lib.hid ho2
      unfold tokV thrown strayV at HON
      clear hone ho2 hp2 HTK
      go_wp2_with (fail)
      refine (HON.out _).mono ?_
      rintro e w3 (⟨hk, rfl, ho3, hp3⟩ | ⟨hk, rfl, ho3⟩)
      · have HO3 := Lib.hid (HO2.out.trans ho3)
        have HP3 := Lib.hid hp3; have HK := Lib.hid hk
        have HW3 := Lib.hid (owns_off HA1.out.own (by have := HOLD.out.1; omega) HO3.out)
        have hs3 : w.heap.size + 1 ≤ w3.heap.size := by have := lt_of_block HA1.out.box; have := HO3.out.size; omega
        have hes : es.length ≤ 70000 := by have := HA1.out.many; have := HA1.out.pr.lt; have := HN.out; omega
        have HS3 := Lib.hid hs3; have HES := Lib.hid hes
        have hall := (Below.refl (w.heap.size + 1) w3).alloc hs3 (.cells #[.int .u8 (tel T (j + 1)).k, .string (tel T (j + 1)).s, .int .i64 (tel T (j + 1)).a] 46)
        have HALL := Lib.hid hall
        clear hk ho3 hp3 hs3 hes hall HON HP2 HO2
        go_wp2_with (at_builtin; refine wpList_append_own _ rfl (.tmp 9) (.tmp 13) 24 rfl (w.heap.size + 1) 46 i0 (.agg #[.int .u8 0, .string ⟨#[]⟩, .int .i64 0]) 3 32 Tryz.underlying24 HI.out HZ0.out HZ1.out HZ2.out rfl (by decide) _ _ _ rfl (HW3.out.alloc _) ⟨w3.heap.size, 0, none⟩ 1 1 [.int .u8 (tel T (j + 1)).k, .string (tel T (j + 1)).s, .int .i64 (tel T (j + 1)).a] rfl rfl (three_new _ _ _ _ _) (by intro u hu; simp at hu; rcases hu with rfl | rfl | rfl <;> rfl) (by have := HES.out; unfold maxLen; omega) (by have := HES.out; omega) (by have := HS3.out; simp; omega) ?_; intro v3 w4 hown4 hgrow4 hnil4; have AFT := Lib.hid (HALL.out.grown hgrow4 (by have := HS3.out; simp; omega) (fun q hq => (HW3.out.lt q hq).1)); have HO4 := Lib.hid hown4; clear hown4 hgrow4 hnil4)
        have hwd := word_walk w4 P g n c (j + 2) T wSemi (HP3.out.keep AFT.out (by have := HOLD.out.1; omega) (by have := HOLD.out.2; omega)) wSemi_in
        have HWD := Lib.hid hwd
        unfold WordEnd thrown strayV at HWD
        clear hwd
        have ho4 : Off P w w4 := (HA1.out.off.trans HO3.out).then (AFT.out.mono (by omega))
        have HOF := Lib.hid ho4
        clear ho4
        refine HWD.out.mono ?_
        rintro e w5 (⟨hx, rfl, ho5, hp5⟩ | ⟨hx, rfl, ho5⟩)
        · have hb5 : w5.heap[w.heap.size]? = some (.cells #[.slice none 0 0, .int .u8 0, .int .u8 0, .int .i64 0, .int .i64 0, .string ⟨#[]⟩, .string ⟨#[]⟩, .string ⟨#[]⟩, .slice none 0 0] 31 (0, 0)) :=
            box_later ((AFT.out.block _ (by omega)).trans (box_later HA1.out.box HO3.out (by have := HOLD.out.1; omega))) ho5 (by have := HOLD.out.1; omega)
          have hfin := HA1.out.next HT.out HK.out hx (owns_off HO4.out (by have := HOLD.out.1; omega) ho5) (HOF.out.trans ho5) hb5 hp5
          have hl5 := lenV_owns (owns_off HO4.out (P := P) (by have := HOLD.out.1; omega) ho5)
          have HF := Lib.hid hfin; have HL5 := Lib.hid hl5
          clear hx ho5 hp5 hb5 hfin hl5
          go_wp2
          go_roundw
          case rel => exact ⟨j + 3, _, HF⟩
          case measure => rw [HL5.out, HLV.out]; have := HA1.out.many; have := HA1.out.pr.lt; omega
        · have hbe := prog_bad_end (g := g) (n := n) (c := c) (HA1.out.semi HT.out HK.out hx) HR.out (HOF.out.trans ho5)
          have HBE := Lib.hid hbe
          clear hx ho5 hbe
          go_wp2_with (fail)
          exact ⟨rfl, HBE.out⟩
      · have hbe := prog_bad_end (g := g) (n := n) (c := c) (HA1.out.no HT.out hk) HR.out ((HA1.out.off.trans HO2.out).trans ho3)
        have HBE := Lib.hid hbe
        clear hk ho3 hbe
        go_wp2_with (fail)
        exact ⟨rfl, HBE.out⟩
    · rw [decide_eq_false ht]
      have hst := HA1.out.stop ht
      have hr := HR.out
      rw [hst] at hr
      have hc := expr_walk m w1 P g n c j T r HA1.out.pr (HL.out.off HA1.out.off) hr
      have HC := Lib.hid hc; have HSP := Lib.hid hst
      clear ht hst hr hc
      go_wp2_with (fail)
      refine HC.out.mono ?_
      rintro e w2 (⟨hb, ⟨h, p, l, d, rfl, hT⟩, ho, hp⟩ | ⟨hb, rfl, ho⟩)
      · have hbx := box_later HA1.out.box ho (by have := HOLD.out.1; omega)
        obtain ⟨⟨r0, r1, r2, r3, r4, r5, r6, r7, r8⟩, f0, f1, f2, f3, f4, f5, f6, f7, f8⟩ := cells9' hbx
        have rl := lt_of_block hbx
        have H := Lib.hid (And.intro hb (And.intro hT (And.intro ho hp)))
        clear hb hT ho hp hbx
        go_wp2_with (fail)
        refine bodyPost_ret (v := .agg #[.slice q0 m0 e0, .int .u8 h.k, .int .u8 h.op, .int .i64 h.pl, .int .i64 h.n, .string h.name, .string h.arg, .string h.exn, .slice p l d]) (by simp [results, Tryz.results19, go_sem, r0, r1, r2, r3, r4, r5, r6, r7, r8]) rfl ?_
        rw [HSP.out]
        refine .inl ⟨H.out.1, ⟨q0, m0, e0, h, p, l, d, rfl, ?_, ?_⟩, ?_, ?_⟩
        · exact owns_low (owns_keep (owns_off HA1.out.own (by have := HOLD.out.1; omega) H.out.2.2.1) fun b h1 h2 => set9_other _ _ _ _ _ _ _ _ _ _ _ _ (by omega)) (by omega)
        · exact H.out.2.1.reads' (fresh_box (N := w.heap.size) (by have := HA1.out.off.size; omega) (lt_of_block HA1.out.box) fun k hk _ => set9_other _ _ _ _ _ _ _ _ _ _ _ _ hk)
        · exact (HA1.out.off.trans H.out.2.2.1).then (Below.set9 w _ _ (Nat.le_refl _) _ _ _ _ _ _ _ _ _)
        · exact H.out.2.2.2.keep (Below.set9 w _ _ (Nat.le_refl _) _ _ _ _ _ _ _ _ _) HOLD.out.1 HOLD.out.2
      · unfold thrown strayV
        have H := Lib.hid (And.intro hb ho)
        clear hb ho
        go_wp2_with (fail)
        refine ⟨rfl, ?_⟩
        rw [HSP.out]
        exact .inr ⟨H.out.1, rfl, HA1.out.off.trans H.out.2⟩
end Parse
end Go.Proofs.YtadpjkehflokcaaGreatDoor
