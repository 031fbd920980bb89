/-The document's parser: how a part ends; stores as one step. The document's reading of tokens: two terms with a sign between them, and where their block lies. The document's parser: terms one behind the other. -/
import Derived.Test.YtadpjkehflokcaaGreatDoorGParseH
import Derived.Test.YtadpjkehflokcaaGreatDoorGParseB
import Derived.Test.YtadpjkehflokcaaGreatDoorGParseG
import Derived.Deep.LoopGhost
namespace Go.Proofs.YtadpjkehflokcaaGreatDoor
open Go.RowKit
set_option linter.unusedVariables false
set_option linter.unusedSimpArgs false
namespace Parse
open Token (Tok tel ToksAt)
open Term (Tm Hd TmIs Flat tcells veil Reads)

/-- One block is written. -/
structure Put1 (N : Nat) (cs : Array Value) (ty : TypeId) (W W' : World) : Prop where
  os : W'.os = W.os
  tape : W'.tape = W.tape
  output : W'.output = W.output
  size : W'.heap.size = W.heap.size
  here : W'.heap[N]? = some (.cells cs ty (0, 0))
  off : ∀ b, b ≠ N → W'.heap[b]? = W.heap[b]?
theorem Put1.below {N B : Nat} {cs : Array Value} {ty : TypeId} {w W W' : World} (h : Put1 N cs ty W W') (hb : Below B w W) (hN : B ≤ N) : Below B w W' :=
  ⟨h.os.trans hb.os, h.tape.trans hb.tape, h.output.trans hb.output, by rw [h.size]; exact hb.size, fun i hi => (h.off i (by omega)).trans (hb.block i hi)⟩
theorem set3_block {W : World} {N : Nat} {c0 c1 c2 a b c : Value} {ty : TypeId} (hN : W.heap[N]? = some (.cells #[c0, c1, c2] ty (0, 0))) :
    (((W.setCell ⟨N, 0, none⟩ a).setCell ⟨N, 1, none⟩ b).setCell ⟨N, 2, none⟩ c).heap[N]? = some (.cells #[a, b, c] ty (0, 0)) := by
  have h0 := set_block (j := 0) (v := a) hN
  rw [show (#[c0, c1, c2] : Array Value).setIfInBounds 0 a = #[a, c1, c2] from rfl] at h0
  have h1 := set_block (j := 1) (v := b) h0
  rw [show (#[a, c1, c2] : Array Value).setIfInBounds 1 b = #[a, b, c2] from rfl] at h1
  have h2 := set_block (j := 2) (v := c) h1
  rw [show (#[a, b, c2] : Array Value).setIfInBounds 2 c = #[a, b, c] from rfl] at h2
  exact h2
theorem put3 {W : World} {N : Nat} {c0 c1 c2 a b c : Value} {ty : TypeId} (hN : W.heap[N]? = some (.cells #[c0, c1, c2] ty (0, 0))) : Put1 N #[a, b, c] ty W (((W.setCell ⟨N, 0, none⟩ a).setCell ⟨N, 1, none⟩ b).setCell ⟨N, 2, none⟩ c) :=
  ⟨rfl, rfl, rfl, by simp [World.setCell], set3_block hN, fun k hk => by rw [Below.heap_setCell _ _ _ _ hk, Below.heap_setCell _ _ _ _ hk, Below.heap_setCell _ _ _ _ hk]⟩
theorem so (W : World) (a : Addr) (v : Value) : (W.setCell a v).os = W.os := rfl
theorem st' (W : World) (a : Addr) (v : Value) : (W.setCell a v).tape = W.tape := rfl
theorem su (W : World) (a : Addr) (v : Value) : (W.setCell a v).output = W.output := rfl
theorem put8 {W : World} {N : Nat} {c0 c1 c2 c3 c4 c5 c6 c7 a b c d e f g h : Value} {ty : TypeId} (hN : W.heap[N]? = some (.cells #[c0, c1, c2, c3, c4, c5, c6, c7] ty (0, 0))) :
    Put1 N #[a, b, c, d, e, f, g, h] ty W ((((((((W.setCell ⟨N, 0, none⟩ a).setCell ⟨N, 1, none⟩ b).setCell ⟨N, 2, none⟩ c).setCell ⟨N, 3, none⟩ d).setCell ⟨N, 4, none⟩ e).setCell ⟨N, 5, none⟩ f).setCell ⟨N, 6, none⟩ g).setCell ⟨N, 7, none⟩ h) :=
  ⟨by rw [so, so, so, so, so, so, so, so], by rw [st', st', st', st', st', st', st', st'], by rw [su, su, su, su, su, su, su, su], set8_size _ _ _ _ _ _ _ _ _ _, set8_block hN, fun k hk => set8_other _ _ _ _ _ _ _ _ _ _ k hk⟩
theorem wp_store3 (ps : String) (ty : TypeId) (af : Array Edge) (a : Act) (w : World) (K : Act → World → Prop) (Q : Exit → Act → World → Prop) (N : Nat) (x y : Nat) (p : Option Addr) (n c : Nat) (i : Int) (b : Bool) (c0 c1 c2 : Value)
    (hx : a.tmps[x]?.getD undef = .pointer (some ⟨N, 0, none⟩)) (hy : a.tmps[y]?.getD undef = .agg #[.slice p n c, .int .i64 i, .bool b])
    (hc : w.heap[N]? = some (.cells #[c0, c1, c2] 56 (0, 0)))
    (h : K a (((w.setCell ⟨N, 0, none⟩ (.slice p n c)).setCell ⟨N, 1, none⟩ (.int .i64 i)).setCell ⟨N, 2, none⟩ (.bool b))) :
    Oper.wp Tryz.prog { dst := none, op := .store 56 (.tmp x) (.tmp y), type := ty, pos := ps, after := af, guard := none } a w K Q := by
  obtain ⟨⟨q0, q1, q2⟩, e0, e1, e2⟩ := cells3 hc
  have ql := lt_of_block hc
  clear hc
  go_simp
  exact h
/-- The parser's state is stored. -/
theorem wpList_stS {w : World} {ops : Array Oper} {rest : List Oper} {a : Act} {Q : Exit → Act → World → Prop} {ps : String} {ty : TypeId} {af : Array Edge} (N x y : Nat) (p : Option Addr) (n c : Nat) (i : Int) (b : Bool) (c0 c1 c2 : Value)
    (hx : a.tmps[x]?.getD undef = .pointer (some ⟨N, 0, none⟩)) (hy : a.tmps[y]?.getD undef = .agg #[.slice p n c, .int .i64 i, .bool b])
    (hc : w.heap[N]? = some (.cells #[c0, c1, c2] 56 (0, 0)))
    (h : ∀ W', Put1 N #[.slice p n c, .int .i64 i, .bool b] 56 w W' → wpList Tryz.prog ops Q rest a W') :
    wpList Tryz.prog ops Q ({ dst := none, op := .store 56 (.tmp x) (.tmp y), type := ty, pos := ps, after := af, guard := none } :: rest) a w :=
  wpList_plain rfl fun K hK => wp_store3 _ _ _ _ _ _ _ N x y p n c i b c0 c1 c2 hx hy hc (hK _ _ (h _ (put3 hc)))
/-- A term is stored. -/
theorem wpList_stT {w : World} {ops : Array Oper} {rest : List Oper} {a : Act} {Q : Exit → Act → World → Prop} {ps : String} {ty : TypeId} {af : Array Edge} (N x y : Nat) (k op pl nn : Int) (nm ar ex : ByteArray) (p : Option Addr) (l d : Nat) (c0 c1 c2 c3 c4 c5 c6 c7 : Value)
    (hx : a.tmps[x]?.getD undef = .pointer (some ⟨N, 0, none⟩)) (hy : a.tmps[y]?.getD undef = .agg #[.int .u8 k, .int .u8 op, .int .i64 pl, .int .i64 nn, .string nm, .string ar, .string ex, .slice p l d])
    (hc : w.heap[N]? = some (.cells #[c0, c1, c2, c3, c4, c5, c6, c7] 29 (0, 0)))
    (h : ∀ W', Put1 N #[.int .u8 k, .int .u8 op, .int .i64 pl, .int .i64 nn, .string nm, .string ar, .string ex, .slice p l d] 29 w W' → wpList Tryz.prog ops Q rest a W') :
    wpList Tryz.prog ops Q ({ dst := none, op := .store 29 (.tmp x) (.tmp y), type := ty, pos := ps, after := af, guard := none } :: rest) a w :=
  wpList_plain rfl fun K hK => wp_store8 _ _ _ _ _ _ _ N x y k op pl nn nm ar ex p l d c0 c1 c2 c3 c4 c5 c6 c7 hx hy hc (hK _ _ (h _ (put8 hc)))
theorem wp_stS (ps : String) (ty : TypeId) (af : Array Edge) (a : Act) (w : World) (K : Act → World → Prop) (Q : Exit → Act → World → Prop) (N : Nat) (x y : Nat) (p : Option Addr) (n c : Nat) (i : Int) (b : Bool) (c0 c1 c2 : Value)
    (hx : a.tmps[x]?.getD undef = .pointer (some ⟨N, 0, none⟩)) (hy : a.tmps[y]?.getD undef = .agg #[.slice p n c, .int .i64 i, .bool b])
    (hc : w.heap[N]? = some (.cells #[c0, c1, c2] 56 (0, 0)))
    (h : ∀ W', Put1 N #[.slice p n c, .int .i64 i, .bool b] 56 w W' → K a W') :
    Oper.wp Tryz.prog { dst := none, op := .store 56 (.tmp x) (.tmp y), type := ty, pos := ps, after := af, guard := none } a w K Q :=
  wp_store3 _ _ _ _ _ _ _ N x y p n c i b c0 c1 c2 hx hy hc (h _ (put3 hc))
theorem wp_stT (ps : String) (ty : TypeId) (af : Array Edge) (a : Act) (w : World) (K : Act → World → Prop) (Q : Exit → Act → World → Prop) (N : Nat) (x y : Nat) (k op pl nn : Int) (nm ar ex : ByteArray) (p : Option Addr) (l d : Nat) (c0 c1 c2 c3 c4 c5 c6 c7 : Value)
    (hx : a.tmps[x]?.getD undef = .pointer (some ⟨N, 0, none⟩)) (hy : a.tmps[y]?.getD undef = .agg #[.int .u8 k, .int .u8 op, .int .i64 pl, .int .i64 nn, .string nm, .string ar, .string ex, .slice p l d])
    (hc : w.heap[N]? = some (.cells #[c0, c1, c2, c3, c4, c5, c6, c7] 29 (0, 0)))
    (h : ∀ W', Put1 N #[.int .u8 k, .int .u8 op, .int .i64 pl, .int .i64 nn, .string nm, .string ar, .string ex, .slice p l d] 29 w W' → K a W') :
    Oper.wp Tryz.prog { dst := none, op := .store 29 (.tmp x) (.tmp y), type := ty, pos := ps, after := af, guard := none } a w K Q :=
  wp_store8 _ _ _ _ _ _ _ N x y k op pl nn nm ar ex p l d c0 c1 c2 c3 c4 c5 c6 c7 hx hy hc (h _ (put8 hc))
/-- How a part ends: where reading stands, and a term that was laid in the call. -/
def DEnd (g n c : Nat) (R : St × Tm) (w : World) (e : Ending) (w' : World) : Prop :=
  ∃ h q l d, e = .returned (.tuple #[.agg #[.slice (some ⟨g, 0, none⟩) n c, .int .i64 R.1.i, .bool R.1.bad], .agg #[.int .u8 h.k, .int .u8 h.op, .int .i64 h.pl, .int .i64 h.n, .string h.name, .string h.arg, .string h.exn, .slice q l d]]) ∧
    TmIs (fresh w.heap.size w') h q l d R.2 ∧ Below w.heap.size w w'
/-- What all that is read of a row relies on. -/
structure DW (w : World) (g n c : Nat) (ts : List Tok) (s : St) : Prop where
  row : RowAt w g n c ts
  lt : s.i < n
/-- A part's contract. -/
def DPart (f : FuncId) (F : St → Option (St × Tm)) (g n c : Nat) (ts : List Tok) : Prop := ∀ (w : World) (s : St) (R : St × Tm), RowAt w g n c ts → s.i < n → F s = some R →
  Calls Tryz.prog f #[.agg #[.slice (some ⟨g, 0, none⟩) n c, .int .i64 s.i, .bool s.bad]] w (DEnd g n c R w)
/-- While the results are written. -/
structure EndS (w wr V : World) : Prop where
  below : Below w.heap.size w V
  off : ∀ b, b ≠ w.heap.size + 1 → b ≠ w.heap.size + 1 + 1 → V.heap[b]? = wr.heap[b]?
  s2 : ∃ a b c, V.heap[w.heap.size + 1]? = some (.cells #[a, b, c] 56 (0, 0))
  s3 : ∃ a b c d e f g h, V.heap[w.heap.size + 1 + 1]? = some (.cells #[a, b, c, d, e, f, g, h] 29 (0, 0))
theorem EndS.two {w wr V W : World} {p : Option Addr} {n c : Nat} {i : Int} {b : Bool} (h : EndS w wr V) (hp : Put1 (w.heap.size + 1) #[.slice p n c, .int .i64 i, .bool b] 56 V W) : EndS w wr W := by
  obtain ⟨a1, a2, a3, a4, a5, a6, a7, a8, h3⟩ := h.s3
  exact ⟨hp.below h.below (by omega), fun b h1 h2 => (hp.off b h1).trans (h.off b h1 h2), ⟨_, _, _, hp.here⟩, ⟨_, _, _, _, _, _, _, _, (hp.off _ (by omega)).trans h3⟩⟩
theorem EndS.three {w wr V W : World} {k op pl nn : Int} {nm ar ex : ByteArray} {p : Option Addr} {l d : Nat} (h : EndS w wr V) (hp : Put1 (w.heap.size + 1 + 1) #[.int .u8 k, .int .u8 op, .int .i64 pl, .int .i64 nn, .string nm, .string ar, .string ex, .slice p l d] 29 V W) : EndS w wr W := by
  obtain ⟨a1, a2, a3, h2⟩ := h.s2
  exact ⟨hp.below h.below (by omega), fun b h1 h2 => (hp.off b h2).trans (h.off b h1 h2), ⟨_, _, _, (hp.off _ (by omega)).trans h2⟩, ⟨_, _, _, _, _, _, _, _, hp.here⟩⟩
/-- A term that lies from block B on, but not in block N. -/
def vl (B N : Nat) (W : World) : World := veil (fun i => decide (B ≤ i ∧ i ≠ N)) W
theorem vl_to {B N : Nat} {W W' : World} (h : ∀ b, b < W.heap.size → B ≤ b → b ≠ N → W'.heap[b]? = W.heap[b]?) : Reads (vl B N W) (vl B N W') :=
  Term.veil_to fun b hb hp => by
    have hp' := of_decide_eq_true hp
    exact ⟨hp, h b hb hp'.1 hp'.2⟩
theorem vl_of {B B1 N : Nat} {W W' : World} (hB : B ≤ B1) (hN : W.heap.size ≤ N ∨ N < B1) (h : ∀ b, b < W.heap.size → B1 ≤ b → W'.heap[b]? = W.heap[b]?) : Reads (fresh B1 W) (vl B N W') :=
  Term.veil_to fun b hb hp => by
    have hp' := of_decide_eq_true hp
    exact ⟨decide_eq_true ⟨by omega, by omega⟩, h b hb hp'⟩
theorem vl_fresh {B B1 N : Nat} {W W' : World} (hB : B1 ≤ B) (h : ∀ b, b < W.heap.size → B ≤ b → b ≠ N → W'.heap[b]? = W.heap[b]?) : Reads (vl B N W) (fresh B1 W') :=
  Term.veil_to fun b hb hp => by
    have hp' := of_decide_eq_true hp
    exact ⟨decide_eq_true (by omega), h b hb hp'.1 hp'.2⟩
end Parse
end Go.Proofs.YtadpjkehflokcaaGreatDoor
namespace Go.Proofs.YtadpjkehflokcaaGreatDoor
open Go.RowKit
set_option linter.unusedVariables false
namespace Parse
open Token (Tok tel ToksAt)
open Term (Tm Hd TmIs Kids ret_bool ret_i64 Flat tcells Reads veil)
open Words (str_no str_yes)

/-- How it ends: the block of the two. -/
def PutEnd2 (x : ByteArray) (pl : Int) (cs : Array Value) (w : World) (e : Ending) (w' : World) : Prop :=
  ∃ b, w.heap.size ≤ b ∧ e = .returned (.agg #[.int .u8 (opK x), .int .u8 (opO x), .int .i64 pl, .int .i64 0, .string ⟨#[]⟩, .string ⟨#[]⟩, .string ⟨#[]⟩, .slice (some ⟨b, 0, none⟩) 2 2]) ∧
    w'.heap[b]? = some (.cells cs 29 (0, 0)) ∧ Below w.heap.size w w'
theorem put_fin2 {x : ByteArray} {K O : Int} {k op pl nn k' op' pl' nn' : Int} {nm ar ex nm' ar' ex' : ByteArray} {p p' : Option Addr} {l l' c c' : Nat} {w w1 W : World}
    (hK : K = opK x) (hO : O = opO x) (hb : Below ((((w.alloc (.cells #[.int .u8 k, .int .u8 op, .int .i64 pl, .int .i64 nn, .string nm, .string ar, .string ex, .slice p l c] 29)).alloc (.cells #[.int .u8 k', .int .u8 op', .int .i64 pl', .int .i64 nn', .string nm', .string ar', .string ex', .slice p' l' c'] 29)).alloc (.cells #[.int .u8 0, .int .u8 0, .int .i64 0, .int .i64 0, .string ⟨#[]⟩, .string ⟨#[]⟩, .string ⟨#[]⟩, .slice none 0 0] 29)).alloc (.cells #[.int .u8 k, .int .u8 op, .int .i64 pl, .int .i64 nn, .string nm, .string ar, .string ex, .slice p l c, .int .u8 k', .int .u8 op', .int .i64 pl', .int .i64 nn', .string nm', .string ar', .string ex', .slice p' l' c'] 29)).heap.size ((((w.alloc (.cells #[.int .u8 k, .int .u8 op, .int .i64 pl, .int .i64 nn, .string nm, .string ar, .string ex, .slice p l c] 29)).alloc (.cells #[.int .u8 k', .int .u8 op', .int .i64 pl', .int .i64 nn', .string nm', .string ar', .string ex', .slice p' l' c'] 29)).alloc (.cells #[.int .u8 0, .int .u8 0, .int .i64 0, .int .i64 0, .string ⟨#[]⟩, .string ⟨#[]⟩, .string ⟨#[]⟩, .slice none 0 0] 29)).alloc (.cells #[.int .u8 k, .int .u8 op, .int .i64 pl, .int .i64 nn, .string nm, .string ar, .string ex, .slice p l c, .int .u8 k', .int .u8 op', .int .i64 pl', .int .i64 nn', .string nm', .string ar', .string ex', .slice p' l' c'] 29)) w1) (hW : ∀ i, i < w1.heap.size → i ≠ w.heap.size + 2 → W.heap[i]? = w1.heap[i]?) (hB : Below w.heap.size w W) :
    PutEnd2 x pl #[.int .u8 k, .int .u8 op, .int .i64 pl, .int .i64 nn, .string nm, .string ar, .string ex, .slice p l c, .int .u8 k', .int .u8 op', .int .i64 pl', .int .i64 nn', .string nm', .string ar', .string ex', .slice p' l' c'] w (.returned (.agg #[.int .u8 K, .int .u8 O, .int .i64 pl, .int .i64 0, .string ⟨#[]⟩, .string ⟨#[]⟩, .string ⟨#[]⟩, .slice (some ⟨w.heap.size + 3, 0, none⟩) 2 2])) W := by
  obtain ⟨_, h3, h4⟩ := four w _ _ _ _ hb
  have hl3 := lt_of_block h3
  exact ⟨w.heap.size + 3, by omega, by rw [hK, hO], by rw [hW _ hl3 (by omega)]; exact h3, hB⟩

set_option maxRecDepth 100000 in
set_option maxHeartbeats 12800000 in
theorem put_any2 (x : ByteArray) (k op pl nn k' op' pl' nn' : Int) (nm ar ex nm' ar' ex' : ByteArray) (p p' : Option Addr) (l l' c c' : Nat) (w : World) :
    Calls Tryz.prog 85 #[.string x, .agg #[.int .u8 k, .int .u8 op, .int .i64 pl, .int .i64 nn, .string nm, .string ar, .string ex, .slice p l c], .agg #[.int .u8 k', .int .u8 op', .int .i64 pl', .int .i64 nn', .string nm', .string ar', .string ex', .slice p' l' c']] w (PutEnd2 x pl #[.int .u8 k, .int .u8 op, .int .i64 pl, .int .i64 nn, .string nm, .string ar, .string ex, .slice p l c, .int .u8 k', .int .u8 op', .int .i64 pl', .int .i64 nn', .string nm', .string ar', .string ex', .slice p' l' c'] w) := by
  have hm := fun W => term_walk W 9 pl (some ⟨w.heap.size + 3, 0, none⟩) 2 2
  have hfin := fun (K O : Int) (hK : K = opK x) (hO : O = opO x) w1 hb W hW hB => put_fin2 (k := k) (op := op) (pl := pl) (nn := nn) (k' := k') (op' := op') (pl' := pl') (nn' := nn') (nm := nm) (ar := ar) (ex := ex) (nm' := nm') (ar' := ar') (ex' := ex') (p := p) (p' := p') (l := l) (l' := l') (c := c) (c' := c') (w := w) (W := W) (w1 := w1) hK hO hb hW hB
  have HM := Lib.hid hm; have HFIN := Lib.hid hfin
  clear hm hfin
  have hways : x = wPut ∨ x = wAdd ∨ x = wSub ∨ x = wMul ∨ x = wLess ∨ x = wIs ∨ (x ≠ wPut ∧ x ≠ wAdd ∧ x ≠ wSub ∧ x ≠ wMul ∧ x ≠ wLess ∧ x ≠ wIs) := by
    by_cases h1 : x = wPut; · exact .inl h1
    by_cases h2 : x = wAdd; · exact .inr (.inl h2)
    by_cases h3 : x = wSub; · exact .inr (.inr (.inl h3))
    by_cases h4 : x = wMul; · exact .inr (.inr (.inr (.inl h4)))
    by_cases h5 : x = wLess; · exact .inr (.inr (.inr (.inr (.inl h5))))
    by_cases h6 : x = wIs; · exact .inr (.inr (.inr (.inr (.inr (.inl h6)))))
    exact .inr (.inr (.inr (.inr (.inr (.inr ⟨h1, h2, h3, h4, h5, h6⟩)))))
  rcases hways with rfl | rfl | rfl | rfl | rfl | rfl | ⟨h1, h2, h3, h4, h5, h6⟩
  · have e0 : (wPut.toList == [58, 61]) = true := by rw [tlPut]; decide
    have e1 : (wPut.toList == [43]) = false := by rw [tlPut]; decide
    have e2 : (wPut.toList == [45]) = false := by rw [tlPut]; decide
    have e3 : (wPut.toList == [42]) = false := by rw [tlPut]; decide
    have e4 : (wPut.toList == [60]) = false := by rw [tlPut]; decide
    have e5 : (wPut.toList == [61]) = false := by rw [tlPut]; decide
    have hK : (8 : Int) = opK wPut := by decide +kernel
    have hO : (0 : Int) = opO wPut := by decide +kernel
    have HK := Lib.hid hK; have HO := Lib.hid hO
    clear hK hO
    go_enter Tryz.func85, Tryz.ntmps85
    go_wp2_with (fail)
    refine (HM.out _).mono ?_
    rintro e w1 ⟨rfl, hb1⟩
    obtain ⟨r, _, hB⟩ := four w _ _ _ _ hb1
    have rl := lt_of_block r
    obtain ⟨⟨r0, r1, r2, r3, r4, r5, r6, r7⟩, f0, f1, f2, f3, f4, f5, f6, f7⟩ := cells8' (N := w.heap.size + 1 + 1) r
    have rl' : w.heap.size + 1 + 1 < w1.heap.size := rl
    have HB1 := Lib.hid hb1; have HB := Lib.hid hB
    clear hb1 hB r rl
    go_wp2_with (fail)
    refine bodyPost_ret (v := .agg #[.int .u8 8, .int .u8 0, .int .i64 pl, .int .i64 0, .string ⟨#[]⟩, .string ⟨#[]⟩, .string ⟨#[]⟩, .slice (some ⟨w.heap.size + 3, 0, none⟩) 2 2]) (by simp [results, Tryz.results85, go_sem, rl', r0, r1, r2, r3, r4, r5, r6, r7]) rfl (HFIN.out _ _ HK.out HO.out w1 HB1.out _ (fun i hi hn => ?_) ?_)
    · rw [Below.heap_alloc _ _ _ (by simp [World.setCell]; exact hi), Below.heap_setCell _ _ _ _ hn, Below.heap_setCell _ _ _ _ hn, Below.heap_setCell _ _ _ _ hn, Below.heap_setCell _ _ _ _ hn, Below.heap_setCell _ _ _ _ hn, Below.heap_setCell _ _ _ _ hn, Below.heap_setCell _ _ _ _ hn, Below.heap_setCell _ _ _ _ hn]
    · have hle : ∀ off : Nat, w.heap.size ≤ (⟨w.heap.size + 1 + 1, off, none⟩ : Addr).block := fun off => by (show w.heap.size ≤ w.heap.size + 1 + 1; omega)
      exact ((((((((HB.out.setCell (hle _) _).setCell (hle _) _).setCell (hle _) _).setCell (hle _) _).setCell (hle _) _).setCell (hle _) _).setCell (hle _) _).setCell (hle _) _).alloc (by simp [World.setCell]; exact HB.out.size) _
  · have e0 : (wAdd.toList == [58, 61]) = false := by rw [tlAdd]; decide
    have e1 : (wAdd.toList == [43]) = true := by rw [tlAdd]; decide
    have e2 : (wAdd.toList == [45]) = false := by rw [tlAdd]; decide
    have e3 : (wAdd.toList == [42]) = false := by rw [tlAdd]; decide
    have e4 : (wAdd.toList == [60]) = false := by rw [tlAdd]; decide
    have e5 : (wAdd.toList == [61]) = false := by rw [tlAdd]; decide
    have hK : (9 : Int) = opK wAdd := by decide +kernel
    have hO : (1 : Int) = opO wAdd := by decide +kernel
    have HK := Lib.hid hK; have HO := Lib.hid hO
    clear hK hO
    go_enter Tryz.func85, Tryz.ntmps85
    go_wp2_with (fail)
    refine (HM.out _).mono ?_
    rintro e w1 ⟨rfl, hb1⟩
    obtain ⟨r, _, hB⟩ := four w _ _ _ _ hb1
    have rl := lt_of_block r
    obtain ⟨⟨r0, r1, r2, r3, r4, r5, r6, r7⟩, f0, f1, f2, f3, f4, f5, f6, f7⟩ := cells8' (N := w.heap.size + 1 + 1) r
    have rl' : w.heap.size + 1 + 1 < w1.heap.size := rl
    have HB1 := Lib.hid hb1; have HB := Lib.hid hB
    clear hb1 hB r rl
    go_wp2_with (fail)
    refine bodyPost_ret (v := .agg #[.int .u8 9, .int .u8 1, .int .i64 pl, .int .i64 0, .string ⟨#[]⟩, .string ⟨#[]⟩, .string ⟨#[]⟩, .slice (some ⟨w.heap.size + 3, 0, none⟩) 2 2]) (by simp [results, Tryz.results85, go_sem, rl', r0, r1, r2, r3, r4, r5, r6, r7]) rfl (HFIN.out _ _ HK.out HO.out w1 HB1.out _ (fun i hi hn => ?_) ?_)
    · rw [Below.heap_alloc _ _ _ (by simp [World.setCell]; exact hi), Below.heap_setCell _ _ _ _ hn, Below.heap_setCell _ _ _ _ hn, Below.heap_setCell _ _ _ _ hn, Below.heap_setCell _ _ _ _ hn, Below.heap_setCell _ _ _ _ hn, Below.heap_setCell _ _ _ _ hn, Below.heap_setCell _ _ _ _ hn, Below.heap_setCell _ _ _ _ hn]
    · have hle : ∀ off : Nat, w.heap.size ≤ (⟨w.heap.size + 1 + 1, off, none⟩ : Addr).block := fun off => by (show w.heap.size ≤ w.heap.size + 1 + 1; omega)
      exact ((((((((HB.out.setCell (hle _) _).setCell (hle _) _).setCell (hle _) _).setCell (hle _) _).setCell (hle _) _).setCell (hle _) _).setCell (hle _) _).setCell (hle _) _).alloc (by simp [World.setCell]; exact HB.out.size) _
  · have e0 : (wSub.toList == [58, 61]) = false := by rw [tlSub]; decide
    have e1 : (wSub.toList == [43]) = false := by rw [tlSub]; decide
    have e2 : (wSub.toList == [45]) = true := by rw [tlSub]; decide
    have e3 : (wSub.toList == [42]) = false := by rw [tlSub]; decide
    have e4 : (wSub.toList == [60]) = false := by rw [tlSub]; decide
    have e5 : (wSub.toList == [61]) = false := by rw [tlSub]; decide
    have hK : (9 : Int) = opK wSub := by decide +kernel
    have hO : (2 : Int) = opO wSub := by decide +kernel
    have HK := Lib.hid hK; have HO := Lib.hid hO
    clear hK hO
    go_enter Tryz.func85, Tryz.ntmps85
    go_wp2_with (fail)
    refine (HM.out _).mono ?_
    rintro e w1 ⟨rfl, hb1⟩
    obtain ⟨r, _, hB⟩ := four w _ _ _ _ hb1
    have rl := lt_of_block r
    obtain ⟨⟨r0, r1, r2, r3, r4, r5, r6, r7⟩, f0, f1, f2, f3, f4, f5, f6, f7⟩ := cells8' (N := w.heap.size + 1 + 1) r
    have rl' : w.heap.size + 1 + 1 < w1.heap.size := rl
    have HB1 := Lib.hid hb1; have HB := Lib.hid hB
    clear hb1 hB r rl
    go_wp2_with (fail)
    refine bodyPost_ret (v := .agg #[.int .u8 9, .int .u8 2, .int .i64 pl, .int .i64 0, .string ⟨#[]⟩, .string ⟨#[]⟩, .string ⟨#[]⟩, .slice (some ⟨w.heap.size + 3, 0, none⟩) 2 2]) (by simp [results, Tryz.results85, go_sem, rl', r0, r1, r2, r3, r4, r5, r6, r7]) rfl (HFIN.out _ _ HK.out HO.out w1 HB1.out _ (fun i hi hn => ?_) ?_)
    · rw [Below.heap_alloc _ _ _ (by simp [World.setCell]; exact hi), Below.heap_setCell _ _ _ _ hn, Below.heap_setCell _ _ _ _ hn, Below.heap_setCell _ _ _ _ hn, Below.heap_setCell _ _ _ _ hn, Below.heap_setCell _ _ _ _ hn, Below.heap_setCell _ _ _ _ hn, Below.heap_setCell _ _ _ _ hn, Below.heap_setCell _ _ _ _ hn]
    · have hle : ∀ off : Nat, w.heap.size ≤ (⟨w.heap.size + 1 + 1, off, none⟩ : Addr).block := fun off => by (show w.heap.size ≤ w.heap.size + 1 + 1; omega)
      exact ((((((((HB.out.setCell (hle _) _).setCell (hle _) _).setCell (hle _) _).setCell (hle _) _).setCell (hle _) _).setCell (hle _) _).setCell (hle _) _).setCell (hle _) _).alloc (by simp [World.setCell]; exact HB.out.size) _
  · have e0 : (wMul.toList == [58, 61]) = false := by rw [tlMul]; decide
    have e1 : (wMul.toList == [43]) = false := by rw [tlMul]; decide
    have e2 : (wMul.toList == [45]) = false := by rw [tlMul]; decide
    have e3 : (wMul.toList == [42]) = true := by rw [tlMul]; decide
    have e4 : (wMul.toList == [60]) = false := by rw [tlMul]; decide
    have e5 : (wMul.toList == [61]) = false := by rw [tlMul]; decide
    have hK : (9 : Int) = opK wMul := by decide +kernel
    have hO : (3 : Int) = opO wMul := by decide +kernel
    have HK := Lib.hid hK; have HO := Lib.hid hO
    clear hK hO
    go_enter Tryz.func85, Tryz.ntmps85
    go_wp2_with (fail)
    refine (HM.out _).mono ?_
    rintro e w1 ⟨rfl, hb1⟩
    obtain ⟨r, _, hB⟩ := four w _ _ _ _ hb1
    have rl := lt_of_block r
    obtain ⟨⟨r0, r1, r2, r3, r4, r5, r6, r7⟩, f0, f1, f2, f3, f4, f5, f6, f7⟩ := cells8' (N := w.heap.size + 1 + 1) r
    have rl' : w.heap.size + 1 + 1 < w1.heap.size := rl
    have HB1 := Lib.hid hb1; have HB := Lib.hid hB
    clear hb1 hB r rl
    go_wp2_with (fail)
    refine bodyPost_ret (v := .agg #[.int .u8 9, .int .u8 3, .int .i64 pl, .int .i64 0, .string ⟨#[]⟩, .string ⟨#[]⟩, .string ⟨#[]⟩, .slice (some ⟨w.heap.size + 3, 0, none⟩) 2 2]) (by simp [results, Tryz.results85, go_sem, rl', r0, r1, r2, r3, r4, r5, r6, r7]) rfl (HFIN.out _ _ HK.out HO.out w1 HB1.out _ (fun i hi hn => ?_) ?_)
    · rw [Below.heap_alloc _ _ _ (by simp [World.setCell]; exact hi), Below.heap_setCell _ _ _ _ hn, Below.heap_setCell _ _ _ _ hn, Below.heap_setCell _ _ _ _ hn, Below.heap_setCell _ _ _ _ hn, Below.heap_setCell _ _ _ _ hn, Below.heap_setCell _ _ _ _ hn, Below.heap_setCell _ _ _ _ hn, Below.heap_setCell _ _ _ _ hn]
    · have hle : ∀ off : Nat, w.heap.size ≤ (⟨w.heap.size + 1 + 1, off, none⟩ : Addr).block := fun off => by (show w.heap.size ≤ w.heap.size + 1 + 1; omega)
      exact ((((((((HB.out.setCell (hle _) _).setCell (hle _) _).setCell (hle _) _).setCell (hle _) _).setCell (hle _) _).setCell (hle _) _).setCell (hle _) _).setCell (hle _) _).alloc (by simp [World.setCell]; exact HB.out.size) _
  · have e0 : (wLess.toList == [58, 61]) = false := by rw [tlLess]; decide
    have e1 : (wLess.toList == [43]) = false := by rw [tlLess]; decide
    have e2 : (wLess.toList == [45]) = false := by rw [tlLess]; decide
    have e3 : (wLess.toList == [42]) = false := by rw [tlLess]; decide
    have e4 : (wLess.toList == [60]) = true := by rw [tlLess]; decide
    have e5 : (wLess.toList == [61]) = false := by rw [tlLess]; decide
    have hK : (9 : Int) = opK wLess := by decide +kernel
    have hO : (4 : Int) = opO wLess := by decide +kernel
    have HK := Lib.hid hK; have HO := Lib.hid hO
    clear hK hO
    go_enter Tryz.func85, Tryz.ntmps85
    go_wp2_with (fail)
    refine (HM.out _).mono ?_
    rintro e w1 ⟨rfl, hb1⟩
    obtain ⟨r, _, hB⟩ := four w _ _ _ _ hb1
    have rl := lt_of_block r
    obtain ⟨⟨r0, r1, r2, r3, r4, r5, r6, r7⟩, f0, f1, f2, f3, f4, f5, f6, f7⟩ := cells8' (N := w.heap.size + 1 + 1) r
    have rl' : w.heap.size + 1 + 1 < w1.heap.size := rl
    have HB1 := Lib.hid hb1; have HB := Lib.hid hB
    clear hb1 hB r rl
    go_wp2_with (fail)
    refine bodyPost_ret (v := .agg #[.int .u8 9, .int .u8 4, .int .i64 pl, .int .i64 0, .string ⟨#[]⟩, .string ⟨#[]⟩, .string ⟨#[]⟩, .slice (some ⟨w.heap.size + 3, 0, none⟩) 2 2]) (by simp [results, Tryz.results85, go_sem, rl', r0, r1, r2, r3, r4, r5, r6, r7]) rfl (HFIN.out _ _ HK.out HO.out w1 HB1.out _ (fun i hi hn => ?_) ?_)
    · rw [Below.heap_alloc _ _ _ (by simp [World.setCell]; exact hi), Below.heap_setCell _ _ _ _ hn, Below.heap_setCell _ _ _ _ hn, Below.heap_setCell _ _ _ _ hn, Below.heap_setCell _ _ _ _ hn, Below.heap_setCell _ _ _ _ hn, Below.heap_setCell _ _ _ _ hn, Below.heap_setCell _ _ _ _ hn, Below.heap_setCell _ _ _ _ hn]
    · have hle : ∀ off : Nat, w.heap.size ≤ (⟨w.heap.size + 1 + 1, off, none⟩ : Addr).block := fun off => by (show w.heap.size ≤ w.heap.size + 1 + 1; omega)
      exact ((((((((HB.out.setCell (hle _) _).setCell (hle _) _).setCell (hle _) _).setCell (hle _) _).setCell (hle _) _).setCell (hle _) _).setCell (hle _) _).setCell (hle _) _).alloc (by simp [World.setCell]; exact HB.out.size) _
  · have e0 : (wIs.toList == [58, 61]) = false := by rw [tlIs]; decide
    have e1 : (wIs.toList == [43]) = false := by rw [tlIs]; decide
    have e2 : (wIs.toList == [45]) = false := by rw [tlIs]; decide
    have e3 : (wIs.toList == [42]) = false := by rw [tlIs]; decide
    have e4 : (wIs.toList == [60]) = false := by rw [tlIs]; decide
    have e5 : (wIs.toList == [61]) = true := by rw [tlIs]; decide
    have hK : (9 : Int) = opK wIs := by decide +kernel
    have hO : (5 : Int) = opO wIs := by decide +kernel
    have HK := Lib.hid hK; have HO := Lib.hid hO
    clear hK hO
    go_enter Tryz.func85, Tryz.ntmps85
    go_wp2_with (fail)
    refine (HM.out _).mono ?_
    rintro e w1 ⟨rfl, hb1⟩
    obtain ⟨r, _, hB⟩ := four w _ _ _ _ hb1
    have rl := lt_of_block r
    obtain ⟨⟨r0, r1, r2, r3, r4, r5, r6, r7⟩, f0, f1, f2, f3, f4, f5, f6, f7⟩ := cells8' (N := w.heap.size + 1 + 1) r
    have rl' : w.heap.size + 1 + 1 < w1.heap.size := rl
    have HB1 := Lib.hid hb1; have HB := Lib.hid hB
    clear hb1 hB r rl
    go_wp2_with (fail)
    refine bodyPost_ret (v := .agg #[.int .u8 9, .int .u8 5, .int .i64 pl, .int .i64 0, .string ⟨#[]⟩, .string ⟨#[]⟩, .string ⟨#[]⟩, .slice (some ⟨w.heap.size + 3, 0, none⟩) 2 2]) (by simp [results, Tryz.results85, go_sem, rl', r0, r1, r2, r3, r4, r5, r6, r7]) rfl (HFIN.out _ _ HK.out HO.out w1 HB1.out _ (fun i hi hn => ?_) ?_)
    · rw [Below.heap_alloc _ _ _ (by simp [World.setCell]; exact hi), Below.heap_setCell _ _ _ _ hn, Below.heap_setCell _ _ _ _ hn, Below.heap_setCell _ _ _ _ hn, Below.heap_setCell _ _ _ _ hn, Below.heap_setCell _ _ _ _ hn, Below.heap_setCell _ _ _ _ hn, Below.heap_setCell _ _ _ _ hn, Below.heap_setCell _ _ _ _ hn]
    · have hle : ∀ off : Nat, w.heap.size ≤ (⟨w.heap.size + 1 + 1, off, none⟩ : Addr).block := fun off => by (show w.heap.size ≤ w.heap.size + 1 + 1; omega)
      exact ((((((((HB.out.setCell (hle _) _).setCell (hle _) _).setCell (hle _) _).setCell (hle _) _).setCell (hle _) _).setCell (hle _) _).setCell (hle _) _).setCell (hle _) _).alloc (by simp [World.setCell]; exact HB.out.size) _
  · have e0 : (x.toList == [58, 61]) = false := by rw [← tlPut]; exact str_no h1
    have e1 : (x.toList == [43]) = false := by rw [← tlAdd]; exact str_no h2
    have e2 : (x.toList == [45]) = false := by rw [← tlSub]; exact str_no h3
    have e3 : (x.toList == [42]) = false := by rw [← tlMul]; exact str_no h4
    have e4 : (x.toList == [60]) = false := by rw [← tlLess]; exact str_no h5
    have e5 : (x.toList == [61]) = false := by rw [← tlIs]; exact str_no h6
    have hK : (9 : Int) = opK x := by unfold opK; rw [if_neg h1]
    have hO : (0 : Int) = opO x := by unfold opO; rw [if_neg h1, if_neg h2, if_neg h3, if_neg h4, if_neg h5, if_neg h6]
    have HK := Lib.hid hK; have HO := Lib.hid hO
    clear hK hO h1 h2 h3 h4 h5 h6
    go_enter Tryz.func85, Tryz.ntmps85
    go_wp2_with (fail)
    refine (HM.out _).mono ?_
    rintro e w1 ⟨rfl, hb1⟩
    obtain ⟨r, _, hB⟩ := four w _ _ _ _ hb1
    have rl := lt_of_block r
    obtain ⟨⟨r0, r1, r2, r3, r4, r5, r6, r7⟩, f0, f1, f2, f3, f4, f5, f6, f7⟩ := cells8' (N := w.heap.size + 1 + 1) r
    have rl' : w.heap.size + 1 + 1 < w1.heap.size := rl
    have HB1 := Lib.hid hb1; have HB := Lib.hid hB
    clear hb1 hB r rl
    go_wp2_with (fail)
    refine bodyPost_ret (v := .agg #[.int .u8 9, .int .u8 0, .int .i64 pl, .int .i64 0, .string ⟨#[]⟩, .string ⟨#[]⟩, .string ⟨#[]⟩, .slice (some ⟨w.heap.size + 3, 0, none⟩) 2 2]) (by simp [results, Tryz.results85, go_sem, rl', r0, r1, r2, r3, r4, r5, r6, r7]) rfl (HFIN.out _ _ HK.out HO.out w1 HB1.out _ (fun i hi hn => ?_) ?_)
    · rw [Below.heap_alloc _ _ _ (by simp [World.setCell]; exact hi), Below.heap_setCell _ _ _ _ hn, Below.heap_setCell _ _ _ _ hn, Below.heap_setCell _ _ _ _ hn, Below.heap_setCell _ _ _ _ hn, Below.heap_setCell _ _ _ _ hn, Below.heap_setCell _ _ _ _ hn, Below.heap_setCell _ _ _ _ hn, Below.heap_setCell _ _ _ _ hn]
    · have hle : ∀ off : Nat, w.heap.size ≤ (⟨w.heap.size + 1 + 1, off, none⟩ : Addr).block := fun off => by (show w.heap.size ≤ w.heap.size + 1 + 1; omega)
      exact ((((((((HB.out.setCell (hle _) _).setCell (hle _) _).setCell (hle _) _).setCell (hle _) _).setCell (hle _) _).setCell (hle _) _).setCell (hle _) _).setCell (hle _) _).alloc (by simp [World.setCell]; exact HB.out.size) _
end Parse
end Go.Proofs.YtadpjkehflokcaaGreatDoor
namespace Go.Proofs.YtadpjkehflokcaaGreatDoor
open Go.RowKit
set_option linter.unusedVariables false
set_option linter.unusedSimpArgs false
namespace Parse
open Token (Tok tel ToksAt)
open Term (Tm Hd TmIs Flat tcells veil Reads)

/-- What stays in a loop of the parser: the state's box, the results' boxes, the term's box. -/
structure ApI (w : World) (g n c : Nat) (N : Nat) (s : St) (h : Hd) (q : Option Addr) (l d : Nat) (t : Tm) (wr : World) : Prop where
  below : Below w.heap.size w wr
  b1 : wr.heap[w.heap.size]? = some (.cells #[.slice (some ⟨g, 0, none⟩) n c, .int .i64 s.i, .bool s.bad] 56 (0, 0))
  b2 : wr.heap[w.heap.size + 1]? = some (.cells #[.slice none 0 0, .int .i64 0, .bool false] 56 (0, 0))
  b3 : wr.heap[w.heap.size + 1 + 1]? = some (.cells #[.int .u8 0, .int .u8 0, .int .i64 0, .int .i64 0, .string ⟨#[]⟩, .string ⟨#[]⟩, .string ⟨#[]⟩, .slice none 0 0] 29 (0, 0))
  b4 : wr.heap[N]? = some (.cells #[.int .u8 h.k, .int .u8 h.op, .int .i64 h.pl, .int .i64 h.n, .string h.name, .string h.arg, .string h.exn, .slice q l d] 29 (0, 0))
  tm : TmIs (vl (w.heap.size + 3) N wr) h q l d t
  lt : s.i < n
  n4 : w.heap.size + 3 ≤ N
theorem ApI.call {w : World} {g n c N : Nat} {s : St} {h : Hd} {q : Option Addr} {l d : Nat} {t : Tm} {wr W : World} (k : ApI w g n c N s h q l d t wr) (hb : Below wr.heap.size wr W) : ApI w g n c N s h q l d t W :=
  ⟨k.below.trans (hb.mono k.below.size), (hb.block _ (lt_of_block k.b1)).trans k.b1, (hb.block _ (lt_of_block k.b2)).trans k.b2, (hb.block _ (lt_of_block k.b3)).trans k.b3, (hb.block _ (lt_of_block k.b4)).trans k.b4, k.tm.reads' (vl_to fun b hb' _ _ => hb.block b hb'), k.lt, k.n4⟩
theorem ApI.state {w : World} {g n c N : Nat} {s s' : St} {h : Hd} {q : Option Addr} {l d : Nat} {t : Tm} {wr W : World} (k : ApI w g n c N s h q l d t wr) (hp : Put1 w.heap.size #[.slice (some ⟨g, 0, none⟩) n c, .int .i64 s'.i, .bool s'.bad] 56 wr W) (hl : s'.i < n) : ApI w g n c N s' h q l d t W := by
  have := k.n4
  exact ⟨hp.below k.below (Nat.le_refl _), hp.here, (hp.off _ (by omega)).trans k.b2, (hp.off _ (by omega)).trans k.b3, (hp.off _ (by omega)).trans k.b4, k.tm.reads' (vl_to fun b hb' h1 _ => hp.off b (by omega)), hl, k.n4⟩
theorem ApI.term {w : World} {g n c N : Nat} {s : St} {h : Hd} {q : Option Addr} {l d : Nat} {t t' : Tm} {wr W : World} {h' : Hd} {q' : Option Addr} {l' d' : Nat} (k : ApI w g n c N s h q l d t wr) (hT : TmIs (vl (w.heap.size + 3) N wr) h' q' l' d' t') (hp : Put1 N #[.int .u8 h'.k, .int .u8 h'.op, .int .i64 h'.pl, .int .i64 h'.n, .string h'.name, .string h'.arg, .string h'.exn, .slice q' l' d'] 29 wr W) : ApI w g n c N s h' q' l' d' t' W := by
  have := k.n4
  exact ⟨hp.below k.below (by omega), (hp.off _ (by omega)).trans k.b1, (hp.off _ (by omega)).trans k.b2, (hp.off _ (by omega)).trans k.b3, hp.here, hT.reads' (vl_to fun b hb' _ h2 => hp.off b h2), k.lt, k.n4⟩
/-- Two terms in a block just laid. -/
theorem two_in {W : World} {B N X : Nat} {h h' : Hd} {q q' : Option Addr} {l l' d d' : Nat} {t u : Tm} {ty : TypeId} (hT : TmIs (vl B N W) h q l d t) (hU : TmIs (vl B N W) h' q' l' d' u) (hX : B ≤ X ∧ X ≠ N)
    (hb : W.heap[X]? = some (.cells (tcells h q l d ++ tcells h' q' l' d').toArray ty (0, 0))) {k pl : Int} (hk : 0 ≤ k ∧ k ≤ 255) (hpl : -9223372036854775808 ≤ pl ∧ pl ≤ 9223372036854775807) :
    TmIs (vl B N W) ⟨k, 0, pl, 0, ⟨#[]⟩, ⟨#[]⟩, ⟨#[]⟩⟩ (some ⟨X, 0, none⟩) 2 2 (node k pl [t, u]) := by
  have h1 := tm_row (V := fun i => decide (B ≤ i ∧ i ≠ N)) (h := ⟨k, 0, pl, 0, ⟨#[]⟩, ⟨#[]⟩, ⟨#[]⟩⟩) (decide_eq_true hX) hb ((Flat.one hT).append (Flat.one hU)) (hd_join hk ⟨by omega, by omega⟩ hpl) (by unfold maxLen; show (2 : Nat) ≤ _; omega)
  exact h1
/-- A call's answer in two boxes, and the state. -/
theorem ap_step {w : World} {g n c N : Nat} {s s' : St} {h h' : Hd} {q q' : Option Addr} {l d l' d' : Nat} {t u : Tm} {w2 w3 wa wb wc : World} (k : ApI w g n c N s h q l d t w2) (hU : TmIs (fresh w2.heap.size w3) h' q' l' d' u) (hb : Below w2.heap.size w2 w3)
    (pa : Put1 w3.heap.size #[.slice (some ⟨g, 0, none⟩) n c, .int .i64 s'.i, .bool s'.bad] 56 ((w3.alloc (.cells #[.slice none 0 0, .int .i64 0, .bool false] 56)).alloc (.cells #[.int .u8 0, .int .u8 0, .int .i64 0, .int .i64 0, .string ⟨#[]⟩, .string ⟨#[]⟩, .string ⟨#[]⟩, .slice none 0 0] 29)) wa) (pb : Put1 (w3.heap.size + 1) #[.int .u8 h'.k, .int .u8 h'.op, .int .i64 h'.pl, .int .i64 h'.n, .string h'.name, .string h'.arg, .string h'.exn, .slice q' l' d'] 29 wa wb) (pc : Put1 w.heap.size #[.slice (some ⟨g, 0, none⟩) n c, .int .i64 s'.i, .bool s'.bad] 56 wb wc) (hl : s'.i < n) :
    ApI w g n c N s' h q l d t wc ∧ wc.heap[w3.heap.size + 1]? = some (.cells #[.int .u8 h'.k, .int .u8 h'.op, .int .i64 h'.pl, .int .i64 h'.n, .string h'.name, .string h'.arg, .string h'.exn, .slice q' l' d'] 29 (0, 0)) ∧ TmIs (vl (w.heap.size + 3) N wc) h' q' l' d' u := by
  have z1 : (w3.alloc (.cells #[.slice none 0 0, .int .i64 0, .bool false] 56)).heap.size = w3.heap.size + 1 := by simp
  have hN2 := lt_of_block k.b4
  have hw2 : w.heap.size + 3 ≤ w2.heap.size := by have := k.n4; omega
  have h23 := hb.size
  have al : Below w3.heap.size w3 ((w3.alloc (.cells #[.slice none 0 0, .int .i64 0, .bool false] 56)).alloc (.cells #[.int .u8 0, .int .u8 0, .int .i64 0, .int .i64 0, .string ⟨#[]⟩, .string ⟨#[]⟩, .string ⟨#[]⟩, .slice none 0 0] 29)) := ((Below.refl _ _).alloc (Nat.le_refl _) _).alloc (by simp) _
  have old : ∀ b, b < w3.heap.size → wb.heap[b]? = w3.heap[b]? := fun b hb' => (pb.off b (by omega)).trans ((pa.off b (by omega)).trans (al.block b hb'))
  have bw : Below w2.heap.size w2 wb := (pb.below (pa.below (hb.trans (al.mono h23)) h23) (by omega))
  refine ⟨(k.call bw).state pc hl, (pc.off _ (by omega)).trans pb.here, hU.reads' (vl_of hw2 (.inr hN2) fun b h1 h2 => ?_)⟩
  exact (pc.off b (by omega)).trans (old b h1)
/-- Two terms become one. -/
theorem ap_node {w : World} {g n c N : Nat} {s : St} {h h' : Hd} {q q' : Option Addr} {l d l' d' : Nat} {t u : Tm} {wc W4 W5 : World} (k : ApI w g n c N s h q l d t wc) (hU : TmIs (vl (w.heap.size + 3) N wc) h' q' l' d' u) {a : Int} (ha : a = h.pl) {X : Nat} (hX : X = wc.heap.size)
    (hb : Below (wc.alloc (.cells (tcells h q l d ++ tcells h' q' l' d').toArray 29)).heap.size (wc.alloc (.cells (tcells h q l d ++ tcells h' q' l' d').toArray 29)) W4)
    (pd : Put1 N #[.int .u8 10, .int .u8 0, .int .i64 a, .int .i64 0, .string ⟨#[]⟩, .string ⟨#[]⟩, .string ⟨#[]⟩, .slice (some ⟨X, 0, none⟩) 2 2] 29 W4 W5) :
    ApI w g n c N s ⟨10, 0, h.pl, 0, ⟨#[]⟩, ⟨#[]⟩, ⟨#[]⟩⟩ (some ⟨wc.heap.size, 0, none⟩) 2 2 (node 10 t.h.pl [t, u]) W5 := by
  subst ha hX
  have al : Below wc.heap.size wc (wc.alloc (.cells (tcells h q l d ++ tcells h' q' l' d').toArray 29)) := (Below.refl _ _).alloc (Nat.le_refl _) _
  have bw := al.trans (hb.mono al.size)
  have hx : W4.heap[wc.heap.size]? = some (.cells (tcells h q l d ++ tcells h' q' l' d').toArray 29 (0, 0)) := (hb.block _ (by simp)).trans (heap_alloc_new wc _)
  have hN := lt_of_block k.b4
  have k4 := k.call bw
  have htm := two_in k4.tm (hU.reads' (vl_to fun b hb' _ _ => bw.block b hb')) (X := wc.heap.size) ⟨by have := k.n4; omega, by omega⟩ hx (k := 10) (pl := h.pl) (by omega) k.tm.ok.pl
  rw [k.tm.head]
  exact k4.term htm pd
theorem cellsS {W : World} {N : Nat} {a0 a1 a2 : Value} {ty : TypeId} (h : W.heap[N]? = some (.cells #[a0, a1, a2] ty (0, 0))) :
    (W.cell? ⟨N, 0, none⟩ = some a0 ∧ W.cell? ⟨N, 1, none⟩ = some a1 ∧ W.cell? ⟨N, 2, none⟩ = some a2) ∧ (W.frozen? ⟨N, 0, none⟩ = false ∧ W.frozen? ⟨N, 1, none⟩ = false ∧ W.frozen? ⟨N, 2, none⟩ = false) := by
  simp [World.cell?, World.frozen?, h]

set_option maxRecDepth 100000 in
set_option maxHeartbeats 51200000 in
theorem applyD_walk (g n c : Nat) (ts : List Tok) (m : Nat) (hU : ∀ k, k ≤ m → DPart 117 (unaryF ts k) g n c ts) : DPart 82 (applyF ts (m + 1)) g n c ts := by
  intro w s R hR hs hF
  have hF' : (unaryF ts m s).bind (fun r => aloopF ts m r.1 r.2) = some R := hF
  obtain ⟨r, hr, hlo⟩ := Option.bind_eq_some_iff.1 hF'
  have hlt := fun k (s : St) (r : St × Tm) (hs : s.i < n) (he : unaryF ts k s = some r) => by
    have := (lt_all ts hR.row k).2.2.2.2.2.2 s r (by rw [hR.len]; exact hs) he
    rw [hR.len] at this
    exact this
  have h3 : Below w.heap.size w (((w.alloc (.cells #[.slice (some ⟨g, 0, none⟩) n c, .int .i64 s.i, .bool s.bad] 56)).alloc (.cells #[.slice none 0 0, .int .i64 0, .bool false] 56)).alloc (.cells #[.int .u8 0, .int .u8 0, .int .i64 0, .int .i64 0, .string ⟨#[]⟩, .string ⟨#[]⟩, .string ⟨#[]⟩, .slice none 0 0] 29)) := (((Below.refl _ _).alloc (Nat.le_refl _) _).alloc (by simp) _).alloc (by simp; omega) _
  have z3 : (((w.alloc (.cells #[.slice (some ⟨g, 0, none⟩) n c, .int .i64 s.i, .bool s.bad] 56)).alloc (.cells #[.slice none 0 0, .int .i64 0, .bool false] 56)).alloc (.cells #[.int .u8 0, .int .u8 0, .int .i64 0, .int .i64 0, .string ⟨#[]⟩, .string ⟨#[]⟩, .string ⟨#[]⟩, .slice none 0 0] 29)).heap.size = w.heap.size + 3 := by simp
  have z2 : ((w.alloc (.cells #[.slice (some ⟨g, 0, none⟩) n c, .int .i64 s.i, .bool s.bad] 56)).alloc (.cells #[.slice none 0 0, .int .i64 0, .bool false] 56)).heap.size = w.heap.size + 1 + 1 := by simp
  have z1 : (w.alloc (.cells #[.slice (some ⟨g, 0, none⟩) n c, .int .i64 s.i, .bool s.bad] 56)).heap.size = w.heap.size + 1 := by simp
  have y1 : (((w.alloc (.cells #[.slice (some ⟨g, 0, none⟩) n c, .int .i64 s.i, .bool s.bad] 56)).alloc (.cells #[.slice none 0 0, .int .i64 0, .bool false] 56)).alloc (.cells #[.int .u8 0, .int .u8 0, .int .i64 0, .int .i64 0, .string ⟨#[]⟩, .string ⟨#[]⟩, .string ⟨#[]⟩, .slice none 0 0] 29)).heap[w.heap.size]? = some (.cells #[.slice (some ⟨g, 0, none⟩) n c, .int .i64 s.i, .bool s.bad] 56 (0, 0)) := by rw [Below.heap_alloc _ _ _ (by omega), Below.heap_alloc _ _ _ (by omega)]; exact heap_alloc_new w _
  have y2 : (((w.alloc (.cells #[.slice (some ⟨g, 0, none⟩) n c, .int .i64 s.i, .bool s.bad] 56)).alloc (.cells #[.slice none 0 0, .int .i64 0, .bool false] 56)).alloc (.cells #[.int .u8 0, .int .u8 0, .int .i64 0, .int .i64 0, .string ⟨#[]⟩, .string ⟨#[]⟩, .string ⟨#[]⟩, .slice none 0 0] 29)).heap[w.heap.size + 1]? = some (.cells #[.slice none 0 0, .int .i64 0, .bool false] 56 (0, 0)) := by rw [Below.heap_alloc _ _ _ (by omega), ← z1]; exact heap_alloc_new _ _
  have y3 : (((w.alloc (.cells #[.slice (some ⟨g, 0, none⟩) n c, .int .i64 s.i, .bool s.bad] 56)).alloc (.cells #[.slice none 0 0, .int .i64 0, .bool false] 56)).alloc (.cells #[.int .u8 0, .int .u8 0, .int .i64 0, .int .i64 0, .string ⟨#[]⟩, .string ⟨#[]⟩, .string ⟨#[]⟩, .slice none 0 0] 29)).heap[w.heap.size + 1 + 1]? = some (.cells #[.int .u8 0, .int .u8 0, .int .i64 0, .int .i64 0, .string ⟨#[]⟩, .string ⟨#[]⟩, .string ⟨#[]⟩, .slice none 0 0] 29 (0, 0)) := by rw [← z2]; exact heap_alloc_new _ _
  have hun := hU m (Nat.le_refl _) (((w.alloc (.cells #[.slice (some ⟨g, 0, none⟩) n c, .int .i64 s.i, .bool s.bad] 56)).alloc (.cells #[.slice none 0 0, .int .i64 0, .bool false] 56)).alloc (.cells #[.int .u8 0, .int .u8 0, .int .i64 0, .int .i64 0, .string ⟨#[]⟩, .string ⟨#[]⟩, .string ⟨#[]⟩, .slice none 0 0] 29)) s r (hR.below h3) hs hr
  have HUN := Lib.hid hun; have HU := Lib.hid hU; have HR := Lib.hid hR; have H3 := Lib.hid h3; have Z3 := Lib.hid z3; have HY := Lib.hid (And.intro y1 (And.intro y2 y3)); have HLT := Lib.hid hlt; have HLO := Lib.hid hlo; have HRL := Lib.hid (hlt m s r hs hr)
  clear hun hU hR h3 z1 z2 z3 y1 y2 y3 hlt hlo hF hF' hr
  go_enter Tryz.func82, Tryz.ntmps82
  go_wp2_with (fail)
  refine HUN.out.mono ?_
  rintro e w1 ⟨h, q, l, d, rfl, hT, hb1⟩
  have hn4 : w.heap.size + 3 ≤ w1.heap.size := by have := hb1.size; rw [Z3.out] at this; exact this
  have y1 := (hb1.block _ (lt_of_block HY.out.1)).trans HY.out.1
  have y2 := (hb1.block _ (lt_of_block HY.out.2.1)).trans HY.out.2.1
  have y3 := (hb1.block _ (lt_of_block HY.out.2.2)).trans HY.out.2.2
  rw [Z3.out] at hT
  have ha : Below w1.heap.size w1 (w1.alloc (.cells #[.int .u8 0, .int .u8 0, .int .i64 0, .int .i64 0, .string ⟨#[]⟩, .string ⟨#[]⟩, .string ⟨#[]⟩, .slice none 0 0] 29)) := (Below.refl _ _).alloc (Nat.le_refl _) _
  have hst : ∀ wa wb, Put1 w.heap.size #[.slice (some ⟨g, 0, none⟩) n c, .int .i64 r.1.i, .bool r.1.bad] 56 (w1.alloc (.cells #[.int .u8 0, .int .u8 0, .int .i64 0, .int .i64 0, .string ⟨#[]⟩, .string ⟨#[]⟩, .string ⟨#[]⟩, .slice none 0 0] 29)) wa → Put1 w1.heap.size #[.int .u8 h.k, .int .u8 h.op, .int .i64 h.pl, .int .i64 h.n, .string h.name, .string h.arg, .string h.exn, .slice q l d] 29 wa wb → ApI w g n c w1.heap.size r.1 h q l d r.2 wb := fun wa wb pa pb => by
    have hba : Below w.heap.size w (w1.alloc (.cells #[.int .u8 0, .int .u8 0, .int .i64 0, .int .i64 0, .string ⟨#[]⟩, .string ⟨#[]⟩, .string ⟨#[]⟩, .slice none 0 0] 29)) := (H3.out.trans (hb1.mono H3.out.size)).trans (ha.mono (Nat.le_trans H3.out.size hb1.size))
    refine ⟨pb.below (pa.below hba (Nat.le_refl _)) (by omega), (pb.off _ (by omega)).trans pa.here, ?_, ?_, pb.here, hT.reads' (vl_of (Nat.le_refl _) (.inl (Nat.le_refl _)) fun b hb h1 => ?_), HRL.out, hn4⟩
    · exact (pb.off _ (by omega)).trans ((pa.off _ (by omega)).trans ((ha.block _ (by omega)).trans y2))
    · exact (pb.off _ (by omega)).trans ((pa.off _ (by omega)).trans ((ha.block _ (by omega)).trans y3))
    · exact (pb.off _ (by omega)).trans ((pa.off _ (by omega)).trans (ha.block _ hb))
  have hx1 : (w1.alloc (.cells #[.int .u8 0, .int .u8 0, .int .i64 0, .int .i64 0, .string ⟨#[]⟩, .string ⟨#[]⟩, .string ⟨#[]⟩, .slice none 0 0] 29)).heap[w.heap.size]? = some (.cells #[.slice (some ⟨g, 0, none⟩) n c, .int .i64 s.i, .bool s.bad] 56 (0, 0)) := (ha.block _ (by omega)).trans y1
  have hx4 := heap_alloc_new w1 (.cells #[.int .u8 0, .int .u8 0, .int .i64 0, .int .i64 0, .string ⟨#[]⟩, .string ⟨#[]⟩, .string ⟨#[]⟩, .slice none 0 0] 29)
  have HX1 := Lib.hid hx1; have HX4 := Lib.hid hx4; have HST := Lib.hid hst; have HN4 := Lib.hid hn4
  clear hT hb1 y1 y2 y3 ha hst hx1 hx4 hn4
  go_wp2_with ((first | (refine wpList_stS w.heap.size 1 10 (some ⟨g, 0, none⟩) n c r.1.i r.1.bad _ _ _ rfl rfl HX1.out ?_; intro wa pa; have PA := Lib.hid pa; clear pa) | (refine wpList_stT w1.heap.size 4 11 h.k h.op h.pl h.n h.name h.arg h.exn q l d _ _ _ _ _ _ _ _ rfl rfl ((PA.out.off _ (by have := HN4.out; omega)).trans HX4.out) ?_; intro wb pb; have PB := Lib.hid pb; clear pb)))
  have hst := HST.out wa wb PA.out PB.out
  have HI0 := Lib.hid hst
  have HNN := Lib.hid HN4.out
  have HROW := Lib.hid (fun (W : World) (hb : Below w.heap.size w W) => HR.out.below hb)
  clear hst HST HX1 HX4 PA PB HUN HY H3 Z3
  generalize w1.heap.size = N4 at *
  go_loopg [] m (fun k wr => ∃ (s' : St) (t' : Tm) (h : Hd) (q : Option Addr) (l d : Nat), k ≤ m ∧ Hid (ApI w g n c N4 s' h q l d t' wr) ∧ Hid (aloopF ts k s' t' = some R))
  case atStart => exact ⟨_, _, _, _, _, _, Nat.le_refl _, HI0, HLO⟩
  case round =>
    clear HI0 HLO
    obtain ⟨s', t', h, q, l, d, hk, HI, HL⟩ := hrel
    obtain ⟨⟨x0, x1, x2⟩, y0, y1, y2⟩ := cellsS HI.out.b1
    obtain ⟨⟨b0, b1, b2, b3, b4, b5, b6, b7⟩, f0, f1, f2, f3, f4, f5, f6, f7⟩ := cells8' HI.out.b4
    have xl := lt_of_block HI.out.b1
    have bl := lt_of_block HI.out.b4
    cases gk with
    | zero => have := HL.out; exact absurd this (by simp [aloopF])
    | succ k =>
      have hl := HL.out
      rw [show aloopF ts (k + 1) s' t' = if s'.bad = false ∧ startsF ts s' = true then (unaryF ts k s').bind (fun r => aloopF ts k r.1 (node 10 t'.h.pl [t', r.2])) else some (s', t') from rfl] at hl
      cases hbad : s'.bad
      rotate_left
      · rw [if_neg (by rw [hbad]; simp)] at hl
        obtain rfl : (s', t') = R := Option.some.inj hl
        rw [hbad] at x2
        have HBAD := Lib.hid hbad; have H4 := Lib.hid HI.out.b4; have H4T := Lib.hid HI.out.tm
        clear hl hbad HL
        go_wp2_with (fail)
        have hini : EndS w wr wr.drew := ⟨HI.out.below.drew, fun b _ _ => rfl, ⟨_, _, _, HI.out.b2⟩, ⟨_, _, _, _, _, _, _, _, HI.out.b3⟩⟩
        refine wp_region_held_drew (S := fun V => EndS w wr V) (by kernel_rfl) hini (fun hHeld => ?_)
        have HE0 := Lib.hid hini
        clear hini
        generalize wr.drew = v0 at *
        refine wpAnyH_take (i := 0) (v := .agg #[.slice (some ⟨g, 0, none⟩) n c, .int .i64 s'.i, .bool s'.bad]) rfl (by kernel_rfl) (by kernel_rfl) (by kernel_rfl) (fun _ _ _ h => h) (Or.inl ⟨by rfl, ?_⟩) (by assumption) ?_
        · intro w' hSw
          obtain ⟨⟨g0, g1, g2⟩, d0, d1, d2⟩ := cellsS ((hSw.off _ (by omega) (by omega)).trans HI.out.b1)
          first | go_simp | rfl
        try simp only [Act.put, List.getElem_toArray, List.getElem_cons_succ, List.getElem_cons_zero, List.setIfInBounds_toArray, List.set_cons_zero, List.set_cons_succ]
        refine wpAnyH_take (i := 1) (v := .agg #[.int .u8 h.k, .int .u8 h.op, .int .i64 h.pl, .int .i64 h.n, .string h.name, .string h.arg, .string h.exn, .slice q l d]) rfl (by kernel_rfl) (by kernel_rfl) (by kernel_rfl) (fun _ _ _ h => h) (Or.inl ⟨by rfl, ?_⟩) (by assumption) ?_
        · intro w' hSw
          obtain ⟨⟨g0, g1, g2, g3, g4, g5, g6, g7⟩, d0, d1, d2, d3, d4, d5, d6, d7⟩ := cells8' ((hSw.off _ (by have := HI.out.n4; omega) (by have := HI.out.n4; omega)).trans H4.out)
          first | go_simp | rfl
        try simp only [Act.put, List.getElem_toArray, List.getElem_cons_succ, List.getElem_cons_zero, List.setIfInBounds_toArray, List.set_cons_zero, List.set_cons_succ]
        refine wpAnyH_ready (rs := [2]) (by kernel_rfl) (by simp) ?_
        refine AllReadyH.cons rfl (fun K hK => ?_) AllReadyH.nil
        have HK2 := Lib.hid hK
        clear hK
        try rw [if_pos (by rfl)]
        obtain ⟨x1, x2, x3, hx2⟩ := HE0.out.s2
        refine wp_stS _ _ _ _ _ _ _ (w.heap.size + 1) _ _ (some ⟨g, 0, none⟩) n c s'.i s'.bad x1 x2 x3 rfl rfl hx2 (fun va pa => ?_)
        clear hx2
        have HE1 := Lib.hid (HE0.out.two pa)
        have PA := Lib.hid pa
        clear pa
        refine HK2.out _ _ HE1.out (fun hHeld => ?_)
        clear HK2
        try simp only [Act.put, List.getElem_toArray, List.getElem_cons_succ, List.getElem_cons_zero, List.setIfInBounds_toArray, List.set_cons_zero, List.set_cons_succ]
        clear K
        refine wpAnyH_ready (rs := [3]) (by kernel_rfl) (by simp) ?_
        refine AllReadyH.cons rfl (fun K hK => ?_) AllReadyH.nil
        have HK2 := Lib.hid hK
        clear hK
        try rw [if_pos (by rfl)]
        obtain ⟨y1, y2, y3, y4, y5, y6, y7, y8, hy3⟩ := HE1.out.s3
        refine wp_stT _ _ _ _ _ _ _ (w.heap.size + 1 + 1) _ _ h.k h.op h.pl h.n h.name h.arg h.exn q l d y1 y2 y3 y4 y5 y6 y7 y8 rfl rfl hy3 (fun vb pb => ?_)
        clear hy3
        have HE2 := Lib.hid (HE1.out.three pb)
        have PB := Lib.hid pb
        clear pb
        refine HK2.out _ _ HE2.out (fun hHeld => ?_)
        clear HK2
        try simp only [Act.put, List.getElem_toArray, List.getElem_cons_succ, List.getElem_cons_zero, List.setIfInBounds_toArray, List.set_cons_zero, List.set_cons_succ]
        clear K
        refine wpAnyH_done (by kernel_rfl) ?_ _
        clear hHeld
        have htm : TmIs (fresh w.heap.size vb) h q l d t' := H4T.out.reads' (vl_fresh (by omega) fun b _ h1 _ => HE2.out.off b (by omega) (by omega))
        have hr2 := (PB.out.off (w.heap.size + 1) (by omega)).trans PA.out.here
        have hr3 := PB.out.here
        obtain ⟨⟨r0, r1, r2⟩, d0, d1, d2⟩ := cellsS hr2
        obtain ⟨⟨g0, g1, g2, g3, g4, g5, g6, g7⟩, e0, e1, e2, e3, e4, e5, e6, e7⟩ := cells8' hr3
        have rl2 := lt_of_block hr2
        have rl3 := lt_of_block hr3
        have HTM := Lib.hid htm
        clear htm hr2 hr3
        go_wp2_with (fail)
        refine bodyPost_ret (v := .tuple #[.agg #[.slice (some ⟨g, 0, none⟩) n c, .int .i64 s'.i, .bool s'.bad], .agg #[.int .u8 h.k, .int .u8 h.op, .int .i64 h.pl, .int .i64 h.n, .string h.name, .string h.arg, .string h.exn, .slice q l d]]) (by simp [results, Tryz.results82, go_sem, r0, r1, r2, g0, g1, g2, g3, g4, g5, g6, g7, rl2, rl3]) rfl ⟨h, q, l, d, rfl, HTM.out, HE2.out.below⟩
      · have hsw := starts_walk wr g n c ts s'.i s'.bad (HROW.out wr HI.out.below) HI.out.lt
        have hx2 : wr.cell? ⟨w.heap.size, 2, none⟩ = some (.bool false) := by rw [← hbad]; exact x2
        have HSW := Lib.hid hsw; have HB1 := Lib.hid hbad; have HLL := Lib.hid hl
        clear hsw hl HL x2
        rw [hbad] at HSW
        clear hbad
        go_wp2_with (fail)
        refine HSW.out.mono ?_
        rintro e w2 ⟨rfl, hb2⟩
        have HI2 := Lib.hid (HI.out.call hb2)
        clear HI hb2 HSW hx2 x0 x1 y0 y1 y2 b0 b1 b2 b3 b4 b5 b6 b7 f0 f1 f2 f3 f4 f5 f6 f7 xl bl
        obtain ⟨⟨x0, x1, x2⟩, y0, y1, y2⟩ := cellsS HI2.out.b1
        obtain ⟨⟨b0, b1, b2, b3, b4, b5, b6, b7⟩, f0, f1, f2, f3, f4, f5, f6, f7⟩ := cells8' HI2.out.b4
        have xl := lt_of_block HI2.out.b1
        have bl := lt_of_block HI2.out.b4
        have hst : startsF ts ⟨s'.i, false⟩ = startsF ts s' := by rw [← HB1.out]
        cases hs' : startsF ts ⟨s'.i, false⟩
        · have hl := HLL.out
          rw [if_neg (by rw [← hst, hs']; simp)] at hl
          obtain rfl : (s', t') = R := Option.some.inj hl
          have HI := HI2
          have H4 := Lib.hid HI.out.b4; have H4T := Lib.hid HI.out.tm
          clear hl hst hs' HLL
          go_wp2_with (fail)
          have hini : EndS w w2 w2.drew := ⟨HI.out.below.drew, fun b _ _ => rfl, ⟨_, _, _, HI.out.b2⟩, ⟨_, _, _, _, _, _, _, _, HI.out.b3⟩⟩
          refine wp_region_held_drew (S := fun V => EndS w w2 V) (by kernel_rfl) hini (fun hHeld => ?_)
          have HE0 := Lib.hid hini
          clear hini
          generalize w2.drew = v0 at *
          refine wpAnyH_take (i := 0) (v := .agg #[.slice (some ⟨g, 0, none⟩) n c, .int .i64 s'.i, .bool s'.bad]) rfl (by kernel_rfl) (by kernel_rfl) (by kernel_rfl) (fun _ _ _ h => h) (Or.inl ⟨by rfl, ?_⟩) (by assumption) ?_
          · intro w' hSw
            obtain ⟨⟨g0, g1, g2⟩, d0, d1, d2⟩ := cellsS ((hSw.off _ (by omega) (by omega)).trans HI.out.b1)
            first | go_simp | rfl
          try simp only [Act.put, List.getElem_toArray, List.getElem_cons_succ, List.getElem_cons_zero, List.setIfInBounds_toArray, List.set_cons_zero, List.set_cons_succ]
          refine wpAnyH_take (i := 1) (v := .agg #[.int .u8 h.k, .int .u8 h.op, .int .i64 h.pl, .int .i64 h.n, .string h.name, .string h.arg, .string h.exn, .slice q l d]) rfl (by kernel_rfl) (by kernel_rfl) (by kernel_rfl) (fun _ _ _ h => h) (Or.inl ⟨by rfl, ?_⟩) (by assumption) ?_
          · intro w' hSw
            obtain ⟨⟨g0, g1, g2, g3, g4, g5, g6, g7⟩, d0, d1, d2, d3, d4, d5, d6, d7⟩ := cells8' ((hSw.off _ (by have := HI.out.n4; omega) (by have := HI.out.n4; omega)).trans H4.out)
            first | go_simp | rfl
          try simp only [Act.put, List.getElem_toArray, List.getElem_cons_succ, List.getElem_cons_zero, List.setIfInBounds_toArray, List.set_cons_zero, List.set_cons_succ]
          refine wpAnyH_ready (rs := [2]) (by kernel_rfl) (by simp) ?_
          refine AllReadyH.cons rfl (fun K hK => ?_) AllReadyH.nil
          have HK2 := Lib.hid hK
          clear hK
          try rw [if_pos (by rfl)]
          obtain ⟨x1, x2, x3, hx2⟩ := HE0.out.s2
          refine wp_stS _ _ _ _ _ _ _ (w.heap.size + 1) _ _ (some ⟨g, 0, none⟩) n c s'.i s'.bad x1 x2 x3 rfl rfl hx2 (fun va pa => ?_)
          clear hx2
          have HE1 := Lib.hid (HE0.out.two pa)
          have PA := Lib.hid pa
          clear pa
          refine HK2.out _ _ HE1.out (fun hHeld => ?_)
          clear HK2
          try simp only [Act.put, List.getElem_toArray, List.getElem_cons_succ, List.getElem_cons_zero, List.setIfInBounds_toArray, List.set_cons_zero, List.set_cons_succ]
          clear K
          refine wpAnyH_ready (rs := [3]) (by kernel_rfl) (by simp) ?_
          refine AllReadyH.cons rfl (fun K hK => ?_) AllReadyH.nil
          have HK2 := Lib.hid hK
          clear hK
          try rw [if_pos (by rfl)]
          obtain ⟨y1, y2, y3, y4, y5, y6, y7, y8, hy3⟩ := HE1.out.s3
          refine wp_stT _ _ _ _ _ _ _ (w.heap.size + 1 + 1) _ _ h.k h.op h.pl h.n h.name h.arg h.exn q l d y1 y2 y3 y4 y5 y6 y7 y8 rfl rfl hy3 (fun vb pb => ?_)
          clear hy3
          have HE2 := Lib.hid (HE1.out.three pb)
          have PB := Lib.hid pb
          clear pb
          refine HK2.out _ _ HE2.out (fun hHeld => ?_)
          clear HK2
          try simp only [Act.put, List.getElem_toArray, List.getElem_cons_succ, List.getElem_cons_zero, List.setIfInBounds_toArray, List.set_cons_zero, List.set_cons_succ]
          clear K
          refine wpAnyH_done (by kernel_rfl) ?_ _
          clear hHeld
          have htm : TmIs (fresh w.heap.size vb) h q l d t' := H4T.out.reads' (vl_fresh (by omega) fun b _ h1 _ => HE2.out.off b (by omega) (by omega))
          have hr2 := (PB.out.off (w.heap.size + 1) (by omega)).trans PA.out.here
          have hr3 := PB.out.here
          obtain ⟨⟨r0, r1, r2⟩, d0, d1, d2⟩ := cellsS hr2
          obtain ⟨⟨g0, g1, g2, g3, g4, g5, g6, g7⟩, e0, e1, e2, e3, e4, e5, e6, e7⟩ := cells8' hr3
          have rl2 := lt_of_block hr2
          have rl3 := lt_of_block hr3
          have HTM := Lib.hid htm
          clear htm hr2 hr3
          go_wp2_with (fail)
          refine bodyPost_ret (v := .tuple #[.agg #[.slice (some ⟨g, 0, none⟩) n c, .int .i64 s'.i, .bool s'.bad], .agg #[.int .u8 h.k, .int .u8 h.op, .int .i64 h.pl, .int .i64 h.n, .string h.name, .string h.arg, .string h.exn, .slice q l d]]) (by simp [results, Tryz.results82, go_sem, r0, r1, r2, g0, g1, g2, g3, g4, g5, g6, g7, rl2, rl3]) rfl ⟨h, q, l, d, rfl, HTM.out, HE2.out.below⟩
        · have hl := HLL.out
          rw [if_pos ⟨HB1.out, by rw [← hst, hs']⟩] at hl
          obtain ⟨r2, hr2, hl2⟩ := Option.bind_eq_some_iff.1 hl
          have hun := HU.out k (by omega) w2 s' r2 (HROW.out w2 HI2.out.below) HI2.out.lt hr2
          have HUN := Lib.hid hun; have HRL2 := Lib.hid (HLT.out k s' r2 HI2.out.lt hr2); have HL2 := Lib.hid hl2
          clear hl hst hs' HLL hun hr2 hl2
          go_wp2_with (fail)
          refine HUN.out.mono ?_
          rintro e w3 ⟨h', q', l', d', rfl, hT3, hb3⟩
          have hz5 : ((w3.alloc (.cells #[.slice none 0 0, .int .i64 0, .bool false] 56)).alloc (.cells #[.int .u8 0, .int .u8 0, .int .i64 0, .int .i64 0, .string ⟨#[]⟩, .string ⟨#[]⟩, .string ⟨#[]⟩, .slice none 0 0] 29)).heap[w3.heap.size]? = some (.cells #[.slice none 0 0, .int .i64 0, .bool false] 56 (0, 0)) := by rw [Below.heap_alloc _ _ _ (by simp)]; exact heap_alloc_new w3 _
          have hz6 : ((w3.alloc (.cells #[.slice none 0 0, .int .i64 0, .bool false] 56)).alloc (.cells #[.int .u8 0, .int .u8 0, .int .i64 0, .int .i64 0, .string ⟨#[]⟩, .string ⟨#[]⟩, .string ⟨#[]⟩, .slice none 0 0] 29)).heap[w3.heap.size + 1]? = some (.cells #[.int .u8 0, .int .u8 0, .int .i64 0, .int .i64 0, .string ⟨#[]⟩, .string ⟨#[]⟩, .string ⟨#[]⟩, .slice none 0 0] 29 (0, 0)) := by rw [← show (w3.alloc (.cells #[.slice none 0 0, .int .i64 0, .bool false] 56)).heap.size = w3.heap.size + 1 from by simp]; exact heap_alloc_new _ _
          have hz1 : ((w3.alloc (.cells #[.slice none 0 0, .int .i64 0, .bool false] 56)).alloc (.cells #[.int .u8 0, .int .u8 0, .int .i64 0, .int .i64 0, .string ⟨#[]⟩, .string ⟨#[]⟩, .string ⟨#[]⟩, .slice none 0 0] 29)).heap[w.heap.size]? = some (.cells #[.slice (some ⟨g, 0, none⟩) n c, .int .i64 s'.i, .bool s'.bad] 56 (0, 0)) := by
            have h1 := lt_of_block HI2.out.b1
            have h2 := hb3.size
            rw [Below.heap_alloc _ _ _ (by simp; omega), Below.heap_alloc _ _ _ (by omega), hb3.block _ h1]
            exact HI2.out.b1
          have hws : w.heap.size < w3.heap.size := by have h1 := lt_of_block HI2.out.b1; have h2 := hb3.size; omega
          have HZ5 := Lib.hid hz5; have HZ6 := Lib.hid hz6; have HZ1 := Lib.hid hz1; have HT3 := Lib.hid hT3; have HB3 := Lib.hid hb3; have HWS := Lib.hid hws
          clear hz5 hz6 hz1 hT3 hb3 hws x0 x1 x2 y0 y1 y2 b0 b1 b2 b3 b4 b5 b6 b7 f0 f1 f2 f3 f4 f5 f6 f7 xl bl
          go_wp2_with ((first | (refine wpList_stS w3.heap.size 5 22 (some ⟨g, 0, none⟩) n c r2.1.i r2.1.bad _ _ _ rfl rfl HZ5.out ?_; intro va pa; have PA := Lib.hid pa; clear pa) | (refine wpList_stT (w3.heap.size + 1) 6 23 h'.k h'.op h'.pl h'.n h'.name h'.arg h'.exn q' l' d' _ _ _ _ _ _ _ _ rfl rfl ((PA.out.off _ (by omega)).trans HZ6.out) ?_; intro vb pb; have PB := Lib.hid pb; clear pb; obtain ⟨⟨z0, z1, z2⟩, z3, z4, z5⟩ := cellsS ((PB.out.off w3.heap.size (by omega)).trans PA.out.here); have zl := lt_of_block ((PB.out.off w3.heap.size (by omega)).trans PA.out.here)) | (refine wpList_stS w.heap.size 1 24 (some ⟨g, 0, none⟩) n c r2.1.i r2.1.bad _ _ _ rfl rfl ((PB.out.off _ (by have := HWS.out; omega)).trans ((PA.out.off _ (by have := HWS.out; omega)).trans HZ1.out)) ?_; intro vc pc; have HS3 := Lib.hid (ap_step HI2.out HT3.out HB3.out PA.out PB.out pc HRL2.out); clear pc z0 z1 z2 z3 z4 z5 zl; obtain ⟨⟨b0, b1, b2, b3, b4, b5, b6, b7⟩, f0, f1, f2, f3, f4, f5, f6, f7⟩ := cells8' HS3.out.1.b4; obtain ⟨⟨c0, c1, c2, c3, c4, c5, c6, c7⟩, e0, e1, e2, e3, e4, e5, e6, e7⟩ := cells8' HS3.out.2.1; have bl := lt_of_block HS3.out.1.b4; have cl := lt_of_block HS3.out.2.1)))
          refine (term_walk _ 10 h.pl (some ⟨vc.heap.size, 0, none⟩) 2 2).mono ?_
          rintro e w4 ⟨rfl, hb4⟩
          have hz4 : w4.heap[N4]? = some (.cells #[.int .u8 h.k, .int .u8 h.op, .int .i64 h.pl, .int .i64 h.n, .string h.name, .string h.arg, .string h.exn, .slice q l d] 29 (0, 0)) := by
            have h1 := lt_of_block HS3.out.1.b4
            rw [hb4.block _ (by simp; omega), Below.heap_alloc _ _ _ h1]
            exact HS3.out.1.b4
          have HZ4 := Lib.hid hz4; have HB4 := Lib.hid hb4
          clear hz4 hb4 b0 b1 b2 b3 b4 b5 b6 b7 f0 f1 f2 f3 f4 f5 f6 f7 c0 c1 c2 c3 c4 c5 c6 c7 e0 e1 e2 e3 e4 e5 e6 e7 bl cl
          go_wp2_with (refine wpList_stT N4 4 31 10 0 h.pl 0 ⟨#[]⟩ ⟨#[]⟩ ⟨#[]⟩ (some ⟨vc.heap.size, 0, none⟩) 2 2 _ _ _ _ _ _ _ _ rfl rfl HZ4.out ?_; intro vd pd; have PD := Lib.hid pd; clear pd)
          have hnx := ap_node HS3.out.1 HS3.out.2.2 rfl rfl HB4.out PD.out
          have HNX := Lib.hid hnx
          clear hnx
          go_roundg k
          case measure => omega
          case rel => exact ⟨_, _, _, _, _, _, by omega, HNX, HL2⟩
end Parse
end Go.Proofs.YtadpjkehflokcaaGreatDoor
