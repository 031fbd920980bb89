/-Maps whose keys are numbers, told by what stands at each key. The walk of the program's Size: the closure counts in a variable of its own. A book of variables, and how memory holds it. -/
import Derived.Test.YtjchplgapaeagaaDoorGV04
import Derived.Test.YtjchplgapaeagaaDoorGV01
import Derived.Maps.OwnSet
import Derived.IntWalk
namespace Go.Proofs.YtjchplgapaeagaaDoor
open Go.RowKit Go.Maps Go.ChangeMaps Go.MapKept
set_option linter.unusedVariables false
set_option linter.unusedSimpArgs false
namespace Types

/-- A map's element, as it is. -/
def tokR (v : Value) : Option (DataW Value × List MemPlace) := some (.held v, [])
theorem tok_inj {v u : Value} {ps : List MemPlace} (h : tokR v = some (.held u, ps)) : v = u := by
  unfold tokR at h
  simp at h
  exact h.1
/-- A number that is a key. -/
def KeyOk (i : Nat) : Prop := (i : Int) ≤ 9223372036854775807
theorem keyOk_of {i : Nat} (h : i ≤ 1000000000000) : KeyOk i := by unfold KeyOk; omega
def kLit (i : Nat) : Lit := .int .i64 (i : Int)
/-- Block b is a map: f tells what stands at each key. -/
def MapAt (w : World) (b : Nat) (f : Nat → Option Value) : Prop :=
  ∃ (n : Nat) (D : DataW Value), w.ownsMap Tryd.prog 3 tokR b n D ∧ (∀ i : Nat, KeyOk i → ∀ z, D.atKey (kLit i) z = match f i with | some v => .held v | none => z) ∧ ∀ es, D = .map es → ∀ p ∈ es, ∃ i, p.1 = kLit i ∧ KeyOk i
theorem intKeyed : Keyed Tryd.prog 3 := int_keyed Tryd.underlying3
theorem key_wf {i : Nat} (h : KeyOk i) : (Lit.int .i64 (i : Int)).wf = true := WalkArith.wf_i64 (by unfold KeyOk at h; omega)
theorem key_of {i : Nat} (h : KeyOk i) : keyOf Tryd.prog 3 (.int .i64 (i : Int)) = some (kLit i) := keyOf_int_mk Tryd.underlying3 (key_wf h)
section
variable {w : World} {b : Nat} {f : Nat → Option Value}
theorem MapAt.new (w : World) : MapAt (w.alloc (.map #[] 0)) w.heap.size fun _ => none :=
  ⟨0, _, World.ownsMap_made w _ _ _, fun i _ z => rfl, fun es he p hp => by cases he; cases hp⟩
theorem MapAt.lt (h : MapAt w b f) : b < w.heap.size := by obtain ⟨_, D, h, _⟩ := h; exact h.lt
/-- The map stays, where its block does. -/
theorem MapAt.of_block {w' : World} (h : MapAt w b f) (hb : w'.heap[b]? = w.heap[b]?) : MapAt w' b f := by
  obtain ⟨n, D, ⟨es, clock, h1, h2⟩, k⟩ := h
  exact ⟨n, D, ⟨es, clock, hb.trans h1, h2⟩, k⟩
theorem MapAt.congr {f' : Nat → Option Value} (h : MapAt w b f) (he : ∀ i, KeyOk i → f i = f' i) : MapAt w b f' := by
  obtain ⟨n, D, h, k, m⟩ := h
  exact ⟨n, D, h, fun i hi z => by rw [← he i hi]; exact k i hi z, m⟩
theorem MapAt.has (h : MapAt w b f) : ∃ (n : Nat) (D : DataW Value), w.ownsMap Tryd.prog 3 tokR b n D ∧ (∀ i : Nat, KeyOk i → ∀ z, D.atKey (kLit i) z = match f i with | some v => .held v | none => z) ∧ ∀ i, KeyOk i → Maps.has D (kLit i) = (f i).isSome := by
  obtain ⟨n, D, h, k, _⟩ := h
  refine ⟨n, D, h, k, fun i hi => ?_⟩
  have k := k i hi
  cases hf : f i with
  | none => rw [hf] at k; exact has_false_of_atKey k
  | some v => rw [hf] at k; exact has_true_of_atKey k
/-- 'm[i]'. -/
theorem MapAt.look (h : MapAt w b f) {t e : TypeId} (ht : Tryd.prog.underlying t = some (.map 3 e)) {z : Value} (hz : (zeroValue e).run Tryd.prog w = .ok z w) {i : Nat} (hi : KeyOk i) :
    (Instr.lookup t (.map (some b)) (.int .i64 (i : Int)) false).run Tryd.prog w = .ok ((f i).getD z) w := by
  obtain ⟨_, D, h, k, _⟩ := h.has
  obtain ⟨v, ps, hrun, hv⟩ := h.lookup intKeyed ht hz (zd := .held z) (zp := []) rfl (key_of hi)
  rw [k i hi] at hv
  rw [hrun]
  cases hf : f i with
  | none => rw [hf] at hv; rw [tok_inj hv]; rfl
  | some u => rw [hf] at hv; rw [tok_inj hv]; rfl
/-- 'v, is := m[i]'. -/
theorem MapAt.look_ok (h : MapAt w b f) {t e : TypeId} (ht : Tryd.prog.underlying t = some (.map 3 e)) {z : Value} (hz : (zeroValue e).run Tryd.prog w = .ok z w) {i : Nat} (hi : KeyOk i) :
    (Instr.lookup t (.map (some b)) (.int .i64 (i : Int)) true).run Tryd.prog w = .ok (.tuple #[(f i).getD z, .bool (f i).isSome]) w := by
  obtain ⟨_, D, h, k, k2⟩ := h.has
  obtain ⟨v, ps, hrun, hv⟩ := h.look_ok intKeyed ht hz (zd := .held z) (zp := []) rfl (key_of hi)
  rw [k i hi] at hv
  rw [hrun, k2 i hi]
  cases hf : f i with
  | none => rw [hf] at hv; rw [tok_inj hv]; rfl
  | some u => rw [hf] at hv; rw [tok_inj hv]; rfl
theorem nodup_lt : ∀ (N : Nat) (l : List Nat), l.Pairwise (· ≠ ·) → (∀ x ∈ l, x < N) → l.length ≤ N
  | 0, l, _, h => by
    cases l with
    | nil => exact Nat.le_refl _
    | cons x l => have := h x (by simp); omega
  | N + 1, l, hp, h => by
    have h1 := nodup_lt N (l.filter (· ≠ N)) (hp.filter _) fun x hx => by
      obtain ⟨a, b⟩ := List.mem_filter.1 hx
      have := h x a
      have : x ≠ N := by simpa using b
      omega
    have h2 : ∀ l : List Nat, l.Pairwise (· ≠ ·) → l.length ≤ (l.filter (· ≠ N)).length + 1 := by
      intro l
      induction l with
      | nil => intro _; simp
      | cons x l ih =>
        intro hp
        rw [List.pairwise_cons] at hp
        by_cases e : x = N
        · have : l.filter (· ≠ N) = l := List.filter_eq_self.2 fun y hy => by have := hp.1 y hy; simp; omega
          rw [List.filter_cons, if_neg (by simp [e]), this]
          simp
        · have := ih hp.2
          rw [List.filter_cons, if_pos (by simp [e])]
          simp only [List.length_cons]
          omega
    have := h2 l hp
    omega
/-- How many there are at most. -/
theorem MapAt.few (h : MapAt w b f) {N : Nat} (hN : ∀ i, KeyOk i → f i ≠ none → i < N) : ∃ D : DataW Value, w.ownsMap Tryd.prog 3 tokR b N D ∧ (∀ i : Nat, KeyOk i → ∀ z, D.atKey (kLit i) z = match f i with | some v => .held v | none => z) ∧ ∀ es, D = .map es → ∀ p ∈ es, ∃ i, p.1 = kLit i ∧ KeyOk i := by
  obtain ⟨n, D, h, k, m⟩ := h
  refine ⟨D, ?_, k, m⟩
  obtain ⟨es, hD, hp⟩ := h.tidy intKeyed
  obtain ⟨aa, clock, h1, h2, h3, h4⟩ := h
  refine ⟨aa, clock, h1, h2, ?_, h4⟩
  have hsz : aa.size = es.length := by
    have e : (DataW.map es : DataW Value) = _ := hD.symm.trans h4
    injection e with e
    rw [e, length_sorted]; simp
  have hall : ∀ p ∈ es, ∃ i, p.1 = kLit i ∧ i < N := fun p hp => by
    obtain ⟨i, e, hi⟩ := m es hD p hp
    refine ⟨i, e, hN i hi fun hf => ?_⟩
    have ka := k i hi
    rw [hf] at ka
    have hh := has_false_of_atKey ka
    rw [hD, has_eq, List.any_eq_false] at hh
    have := hh p hp
    rw [e, WideAt.sameKey_self (show WideAt.IsKeyLit (kLit i) from trivial)] at this
    exact this rfl
  rw [hsz]
  have hmap : ∀ es : List (Lit × DataW Value), es.Pairwise (fun p q => p.1 ≠ q.1) → (∀ p ∈ es, ∃ i, p.1 = kLit i ∧ i < N) → ∃ l : List Nat, l.length = es.length ∧ l.Pairwise (· ≠ ·) ∧ (∀ x ∈ l, x < N) ∧ ∀ x ∈ l, ∃ p ∈ es, p.1 = kLit x := by
    intro es
    induction es with
    | nil => intro _ _; exact ⟨[], rfl, .nil, by simp, by simp⟩
    | cons p es ih =>
      intro hp ha
      rw [List.pairwise_cons] at hp
      obtain ⟨l, l1, l2, l3, l4⟩ := ih hp.2 fun q hq => ha q (by simp [hq])
      obtain ⟨i, hi, hiN⟩ := ha p (by simp)
      refine ⟨i :: l, by simp [l1], List.pairwise_cons.2 ⟨fun x hx e => ?_, l2⟩, fun x hx => ?_, fun x hx => ?_⟩
      · obtain ⟨q, hq, e2⟩ := l4 x hx
        exact hp.1 q hq (by rw [hi, e2, e])
      · rcases List.mem_cons.1 hx with rfl | hx
        · exact hiN
        · exact l3 x hx
      · rcases List.mem_cons.1 hx with rfl | hx
        · exact ⟨p, by simp, hi⟩
        · obtain ⟨q, hq, e2⟩ := l4 x hx
          exact ⟨q, by simp [hq], e2⟩
  obtain ⟨l, l1, l2, l3, _⟩ := hmap es hp hall
  rw [← l1]
  exact nodup_lt N l l2 l3
theorem mem_insert {H : Type} {x p : Lit × DataW H} : ∀ {l : List (Lit × DataW H)}, p ∈ DataW.insert x l → p = x ∨ p ∈ l
  | [], h => by
    have : p ∈ [x] := h
    simpa using this
  | y :: r, h => by
    unfold DataW.insert at h
    split at h
    · rcases List.mem_cons.1 h with h | h
      · exact .inl h
      · exact .inr h
    · rcases List.mem_cons.1 h with h | h
      · exact .inr (by simp [h])
      · exact (mem_insert h).imp _root_.id fun h => by simp [h]
/-- 'm[i] = v'. -/
theorem MapAt.store (h : MapAt w b f) {t e : TypeId} (ht : Tryd.prog.underlying t = some (.map 3 e)) {N : Nat} (hN : ∀ i, KeyOk i → f i ≠ none → i < N) (hn : N < maxLen) {i : Nat} (hi : KeyOk i) (v : Value) :
    ∃ w', (Instr.mapUpdate t (.map (some b)) (.int .i64 (i : Int)) v).run Tryd.prog w = .ok () w' ∧ MapAt w' b (upd f i (some v)) ∧ w.grownBy w' (some b) ∧ w'.heap.size = w.heap.size := by
  obtain ⟨D, h, k, m⟩ := h.few hN
  obtain ⟨w', hrun, h', ht'⟩ := h.store intKeyed ht hn (d := .held v) (ps := []) (key_of hi) rfl
  refine ⟨w', hrun, ⟨_, _, h', fun j hj z => ?_, fun es he p hp => ?_⟩, ht'.grown, ?_⟩
  · by_cases e : j = i
    · subst e
      rw [upd_same, atKey_put_same h.isMap (show WideAt.IsKeyLit (kLit j) from trivial)]
    · rw [upd_other _ _ e, atKey_put_other, k j hj z]
      intro he
      have he : Lit.int .i64 (j : Int) = Lit.int .i64 (i : Int) := he
      have he := (Lit.int.inj he).2
      exact e (by omega)
  · obtain ⟨es0, rfl⟩ := h.isMap
    have he : DataW.map (DataW.insert (kLit i, .held v) (es0.filter fun p => !p.1.sameKey (kLit i))) = .map es := he
    injection he with he
    rw [← he] at hp
    rcases mem_insert hp with rfl | hp
    · exact ⟨i, rfl, hi⟩
    · exact m es0 rfl p (List.mem_filter.1 hp).1
  · obtain ⟨es, clock, es', clock', _, rfl⟩ := ht'
    simp [setBlock]
end
set_option maxRecDepth 100000 in
/-- 'm[i] = v' at the operation. -/
theorem wpList_store {w : World} {ops : Array Oper} {rest : List Oper} {a : Act} {Q : Exit → Act → World → Prop} {ps : String} {ty : TypeId} {af : Array Edge} {m x v : Operand} (t e : TypeId) (ht : Tryd.prog.underlying t = some (.map 3 e)) (b N i : Nat) (f : Nat → Option Value) (val : Value)
    (hm : a.eval m = .map (some b)) (hx : a.eval x = .int .i64 (i : Int)) (hv : a.eval v = val) (h : MapAt w b f) (hN : ∀ i, KeyOk i → f i ≠ none → i < N) (hn : N < maxLen) (hi : KeyOk i)
    (hK : ∀ w', MapAt w' b (upd f i (some val)) → w.grownBy w' (some b) → w'.heap.size = w.heap.size → wpList Tryd.prog ops Q rest a w') :
    wpList Tryd.prog ops Q ({ dst := none, op := .mapUpdate t m x v, type := ty, pos := ps, after := af, guard := none } :: rest) a w := by
  refine wpList_plain rfl fun K' hK' => ?_
  obtain ⟨w', hrun, r1, r2, r3⟩ := h.store ht hN hn hi val
  unfold Oper.wp
  clear h hN hn hi ht
  simp [execOp, hm, hx, hv, hrun, Result.andThen]
  exact hK' _ _ (hK w' r1 r2 r3)
set_option maxRecDepth 100000 in
/-- .. where the order is drawn. -/
theorem wp_store {w : World} {a : Act} {K : Act → World → Prop} {Q : Exit → Act → World → Prop} {ps : String} {ty : TypeId} {af : Array Edge} {m x v : Operand} (t e : TypeId) (ht : Tryd.prog.underlying t = some (.map 3 e)) (b N i : Nat) (f : Nat → Option Value) (val : Value)
    (hm : a.eval m = .map (some b)) (hx : a.eval x = .int .i64 (i : Int)) (hv : a.eval v = val) (h : MapAt w b f) (hN : ∀ i, KeyOk i → f i ≠ none → i < N) (hn : N < maxLen) (hi : KeyOk i)
    (hK : ∀ w', MapAt w' b (upd f i (some val)) → w.grownBy w' (some b) → w'.heap.size = w.heap.size → K a w') :
    Oper.wp Tryd.prog { dst := none, op := .mapUpdate t m x v, type := ty, pos := ps, after := af, guard := none } a w K Q := by
  obtain ⟨w', hrun, r1, r2, r3⟩ := h.store ht hN hn hi val
  unfold Oper.wp
  clear h hN hn hi ht
  simp [execOp, hm, hx, hv, hrun, Result.andThen]
  exact hK w' r1 r2 r3
theorem zeroTy (w : World) : (zeroValue 25).run Tryd.prog w = .ok (.agg #[.int .u8 0, .int .i64 0, .slice none 0 0]) w := by kernel_rfl
theorem zeroBool (w : World) : (zeroValue 4).run Tryd.prog w = .ok (.bool false) w := by kernel_rfl
theorem zeroInt (w : World) : (zeroValue 3).run Tryd.prog w = .ok (.int .i64 0) w := by kernel_rfl
end Types
end Go.Proofs.YtjchplgapaeagaaDoor
namespace Go.Proofs.YtjchplgapaeagaaDoor
open Go.RowKit
set_option linter.unusedVariables false
namespace Types

/-- All blocks stay but N. -/
structure But (N : Nat) (w w' : World) : Prop where
  os : w'.os = w.os
  tape : w'.tape = w.tape
  output : w'.output = w.output
  size : w.heap.size ≤ w'.heap.size
  block : ∀ b, b < w.heap.size → b ≠ N → w'.heap[b]? = w.heap[b]?
theorem But.refl (N : Nat) (w : World) : But N w w := ⟨rfl, rfl, rfl, Nat.le_refl _, fun _ _ _ => rfl⟩
theorem But.trans {N : Nat} {a b c : World} (h : But N a b) (k : But N b c) : But N a c :=
  ⟨k.os.trans h.os, k.tape.trans h.tape, k.output.trans h.output, Nat.le_trans h.size k.size, fun i hi hn => (k.block i (Nat.lt_of_lt_of_le hi h.size) hn).trans (h.block i hi hn)⟩
theorem But.of_below {N : Nat} {w w' : World} (hb : Below w.heap.size w w') : But N w w' := ⟨hb.os, hb.tape, hb.output, hb.size, fun i hi _ => hb.block i hi⟩
theorem But.alloc {N : Nat} {a w : World} (h : But N a w) (o : Obj) : But N a (w.alloc o) := h.trans (But.of_below (box_new o))
theorem But.set {N : Nat} {a w : World} (h : But N a w) (j : Nat) (u : Value) : But N a (w.setCell ⟨N, j, none⟩ u) :=
  h.trans ⟨rfl, rfl, rfl, by simp [World.setCell], fun i hi hn => Below.heap_setCell _ _ _ _ (fun e => hn e)⟩
theorem But.drew {N : Nat} {a w : World} (h : But N a w) : But N a w.drew := ⟨h.os, h.tape, h.output, h.size, h.block⟩
theorem But.below {N B : Nat} {W w' : World} (hs : But N W w') (hB : B ≤ N) (hW : B ≤ W.heap.size) : Below B W w' :=
  ⟨hs.os, hs.tape, hs.output, hs.size, fun i hi => hs.block i (by omega) (by omega)⟩
theorem But.cell {N : Nat} {w w' : World} (h : But N w w') {p : Addr} (hp : p.block < w.heap.size) (ho : p.block ≠ N) : w'.cell? p = w.cell? p := World.cell?_of_block (h.block p.block hp ho)
theorem But.box {N : Nat} {wr W : World} {cs : Array Value} {ty : TypeId} (hN : N < wr.heap.size) (hs : But N (wr.alloc (.cells cs ty)) W) (j : Nat) {v : Value} (hv : cs[j]? = some v) : W.cell? ⟨wr.heap.size, j, none⟩ = some v := by
  rw [hs.cell (p := ⟨wr.heap.size, j, none⟩) (by simp) (by show wr.heap.size ≠ N; omega), World.cell?_alloc_mark, hv]
theorem wts_drop (ts : List Ty) (j : Nat) (hj : j < ts.length) : wts (ts.drop j) = wts (tget ts j).ks + 1 + wts (ts.drop (j + 1)) := by
  rw [drop_tget ts j hj, wts_cons, wt_ks]

/-- The count's block. -/
def Cnt (N : Nat) (n : Nat) (W : World) : Prop := W.heap[N]? = some (.cells #[.int .i64 n] 3 (0, 0))
theorem Cnt.keep {N n : Nat} {W W' : World} (h : Cnt N n W) (hb : Below W.heap.size W W') : Cnt N n W' := (hb.block N (lt_of_block h)).trans h
def SizeEnd (N n : Nat) (w : World) (e : Ending) (w' : World) : Prop := e = .returned (.bool true) ∧ Cnt N n w' ∧ But N w w'

set_option maxHeartbeats 1600000 in
theorem size1_walk (N n : Nat) (W : World) (h : Hd) (p : Option Addr) (l c : Nat) (hC : Cnt N n W) (hn : n < 1000000) :
    Calls Tryd.prog 90 #[.agg #[.int .u8 h.k, .int .i64 h.v, .slice p l c], .pointer (some ⟨N, 0, none⟩)] W (SizeEnd N (n + 1) W) := by
  obtain ⟨k, v⟩ := h
  have cN : W.cell? ⟨N, 0, none⟩ = some (.int .i64 n) := by simp [World.cell?, show W.heap[N]? = _ from hC]
  have fN : W.frozen? ⟨N, 0, none⟩ = false := by simp [World.frozen?, show W.heap[N]? = _ from hC]
  have hNl : N < W.heap.size := lt_of_block hC
  have hend : ∀ O : Obj, SizeEnd N (n + 1) W (.returned (.bool true)) ((W.setCell ⟨N, 0, none⟩ (.int .i64 ((n : Int) + 1))).alloc O) := fun O => by
    refine ⟨rfl, ?_, ((But.refl N W).set 0 _).alloc O⟩
    have h1 : (W.setCell ⟨N, 0, none⟩ (.int .i64 ((n : Int) + 1))).heap[N]? = some (.cells #[.int .i64 ((n + 1 : Nat) : Int)] 3 (0, 0)) := by simp [World.setCell, Array.getElem?_modify, show W.heap[N]? = _ from hC]
    exact (Below.heap_alloc _ O N (by simp [World.setCell]; exact hNl)).trans h1
  have HE := Lib.hid hend
  clear hend hC
  go_enter Tryd.func90, Tryd.ntmps90
  go_wp2
  go_ret
  exact HE.out _

set_option maxRecDepth 10000 in
set_option maxHeartbeats 6400000 in
theorem allSize_walk (w0 : World) (N : Nat) (hN : w0.heap.size ≤ N) :
    ∀ (m : Nat) (ts : List Ty) (p : Option Addr) (l d n : Nat) (w : World), wts ts ≤ m → ts.length = l → l ≤ maxLen → Kids w0 p ts → Below w0.heap.size w0 w → Cnt N n w → n + wts ts ≤ 1000000 →
    Calls Tryd.prog 67 #[.func (.func 90) #[] #[.pointer (some ⟨N, 0, none⟩)], .slice p l d] w (SizeEnd N (n + wts ts) w) := by
  intro m
  induction m using Nat.strongRecOn with
  | _ m ih =>
    intro ts p l d n w hm hl hlm hk hb0 hC hn
    unfold maxLen at hlm
    have HM := Lib.hid hm; have HL := Lib.hid hl; have HK := Lib.hid hk; have HB0 := Lib.hid hb0; have HC := Lib.hid hC; have HN := Lib.hid hn; have IH := Lib.hid ih
    clear hm hl hk hb0 hC hn ih
    go_enter Tryd.func67, Tryd.ntmps67
    go_wp2_with (fail)
    go_loopw [6, 9] (fun _ i wr => ∃ (j u : Nat), j ≤ l ∧ i = .int .i64 j ∧ Hid (u + wts (ts.drop j) = n + wts ts) ∧ Hid (Cnt N u wr) ∧ Hid (But N w wr)) (fun _ i _ => l - (intOf i).toNat)
    case atStart => exact ⟨0, n, Nat.zero_le _, rfl, Lib.hid (by rw [List.drop_zero]), HC, Lib.hid (But.refl _ _)⟩
    case round =>
      obtain ⟨j, u, hj, rfl, HF, HU, HS⟩ := hrel
      have hB0 : Below w0.heap.size w0 wr := HB0.out.trans (HS.out.below hN HB0.out.size)
      have HB := Lib.hid hB0
      clear hB0
      by_cases hlt : j < l
      · have hjk : j < ts.length := by rw [HL.out]; exact hlt
        obtain ⟨b, o, q, c', rfl, hkid, e0, e1, e2⟩ := HK.out.get j hjk
        have hR := fun (a : Addr) (v : Value) (hv : w0.cell? a = some v) => (HB.out.cell (World.block_lt_of_cell? w0 _ hv)).trans hv
        have c0 := hR _ _ e0
        have c1 := hR _ _ e1
        have c2 := hR _ _ e2
        have hwd := wts_drop ts j hjk
        have hwm : wts (tget ts j).ks < wts ts := by have h1 := wts_get hjk; have h2 := wt_ks (tget ts j); omega
        have hNw := lt_of_block HU.out
        have HJK := Lib.hid hjk; have HKID := Lib.hid hkid; have HWM := Lib.hid hwm; have HWD := Lib.hid hwd; have HNW := Lib.hid hNw
        clear hjk hkid hwm hwd hNw hR e0 e1 e2
        go_wp2_with (fail)
        refine (size1_walk N u _ _ _ _ _ (HU.out.keep (box_new _)) (by have := HF.out; have := HN.out; have := HWD.out; omega)).mono ?_
        rintro e w1 ⟨rfl, hC1, hs1⟩
        have b2 := hs1.box HNW.out 2 rfl
        have HC1 := Lib.hid hC1
        have HS1 := Lib.hid ((HS.out.alloc _).trans hs1)
        clear hC1 hs1 c0 c1 c2
        go_wp2_with (fail)
        refine (IH.out (wts (tget ts j).ks) (by have := HWM.out; have := HM.out; omega) (tget ts j).ks q _ c' (u + 1) _ (Nat.le_refl _) rfl (Nat.le_trans HKID.out.cap.1 HKID.out.cap.2) HKID.out.kids (HB0.out.trans (HS1.out.below hN HB0.out.size)) HC1.out (by have := HF.out; have := HN.out; have := HWD.out; omega)).mono ?_
        rintro e w2 ⟨rfl, hC2, hs2⟩
        have HC2 := Lib.hid hC2
        have HS2 := Lib.hid (HS1.out.trans hs2)
        clear hC2 hs2 b2
        go_wp2
        go_roundw
        case rel => exact ⟨j + 1, _, by omega, by go_num, Lib.hid (by have := HF.out; have := HWD.out; omega), HC2, HS2⟩
        case measure => simp [intOf]; omega
      · obtain rfl : j = l := by omega
        have hr := HF.out
        rw [List.drop_eq_nil_of_le (by rw [HL.out]; exact Nat.le_refl _), wts_nil, Nat.add_zero] at hr
        have hc := HU.out
        rw [hr] at hc
        have HR := Lib.hid hc
        clear hr hc
        go_wp2
        go_ret
        exact ⟨rfl, HR.out, HS.out⟩

set_option maxHeartbeats 1600000 in
theorem size_walk (ts : List Ty) (p : Option Addr) (l d : Nat) (w : World) (hl : ts.length = l) (hlm : l ≤ maxLen) (hk : Kids w p ts) (hw : wts ts ≤ 1000000) :
    Calls Tryd.prog 77 #[.slice p l d] w fun e w' => e = .returned (.int .i64 (wts ts : Nat)) ∧ Below w.heap.size w w' := by
  have h1 := allSize_walk w w.heap.size (Nat.le_refl _) (wts ts) ts p l d 0 (w.alloc (.cells #[.int .i64 0] 3)) (Nat.le_refl _) hl hlm hk (box_new _) (heap_alloc_new _ _) (by omega)
  have H1 := Lib.hid h1; have HW := Lib.hid hw
  clear h1 hk hl hlm hw
  go_enter Tryd.func77, Tryd.ntmps77
  go_wp2_with (fail)
  refine H1.out.mono ?_
  rintro e w1 ⟨rfl, hC1, hs1⟩
  rw [Nat.zero_add] at hC1
  have c1 : w1.cell? ⟨w.heap.size, 0, none⟩ = some (.int .i64 (wts ts : Nat)) := by simp [World.cell?, show w1.heap[w.heap.size]? = _ from hC1]
  have HB1 := Lib.hid ((box_new (w := w) (.cells #[.int .i64 0] 3)).trans (hs1.below (Nat.le_refl _) (by simp)))
  have HW2 := HW.out
  generalize hX : wts ts = X at *
  have HX := Lib.hid hX
  clear hs1 hC1 hX
  go_wp2
  go_ret
  exact ⟨by rw [HX.out]; rfl, HB1.out⟩
end Types
end Go.Proofs.YtjchplgapaeagaaDoor
namespace Go.Proofs.YtjchplgapaeagaaDoor
open Go.RowKit
set_option linter.unusedVariables false
set_option linter.unusedSimpArgs false
namespace Types

/-- What is seen through P stays. -/
structure Kp (P : Nat → Bool) (w w' : World) : Prop where
  os : w'.os = w.os
  tape : w'.tape = w.tape
  output : w'.output = w.output
  size : w.heap.size ≤ w'.heap.size
  block : ∀ b, b < w.heap.size → P b = true → w'.heap[b]? = w.heap[b]?
section
variable {P P' : Nat → Bool} {w w' w'' : World}
theorem Kp.refl (P : Nat → Bool) (w : World) : Kp P w w := ⟨rfl, rfl, rfl, Nat.le_refl _, fun _ _ _ => rfl⟩
theorem Kp.trans (h : Kp P w w') (k : Kp P w' w'') : Kp P w w'' :=
  ⟨k.os.trans h.os, k.tape.trans h.tape, k.output.trans h.output, Nat.le_trans h.size k.size, fun b hb hp => (k.block b (Nat.lt_of_lt_of_le hb h.size) hp).trans (h.block b hb hp)⟩
theorem Kp.mono (h : Kp P w w') (hp : ∀ b, P' b = true → P b = true) : Kp P' w w' := ⟨h.os, h.tape, h.output, h.size, fun b hb q => h.block b hb (hp b q)⟩
theorem Kp.of_below (h : Below w.heap.size w w') : Kp P w w' := ⟨h.os, h.tape, h.output, h.size, fun b hb _ => h.block b hb⟩
theorem Kp.drew (h : Kp P w w') : Kp P w w'.drew := ⟨h.os, h.tape, h.output, h.size, h.block⟩
theorem Kp.alloc (h : Kp P w w') (o : Obj) : Kp P w (w'.alloc o) := h.trans (.of_below ((Below.refl _ _).alloc (Nat.le_refl _) o))
theorem Kp.set (h : Kp P w w') {N : Nat} (hN : P N = false) (j : Nat) (v : Value) : Kp P w (w'.setCell ⟨N, j, none⟩ v) :=
  h.trans ⟨rfl, rfl, rfl, by simp [World.setCell], fun b hb hp => Below.heap_setCell _ _ _ _ (fun e => by subst e; rw [hN] at hp; cases hp)⟩
theorem Kp.grown {b : Nat} (h : Kp P w w') (hg : w'.grownBy w'' (some b)) (hb : P b = false) : Kp P w w'' :=
  h.trans ⟨hg.os, hg.tape, hg.output, hg.size, fun i hi hp => hg.block i hi (fun e => by injection e with e; subst e; rw [hb] at hp; cases hp)⟩
theorem Kp.reads (h : Kp P w w') : Reads (veil P w) (veil P w') := veil_to fun b hb hp => ⟨hp, h.block b hb hp⟩
theorem Kp.ty (h : Kp P w w') {hd : Hd} {p : Option Addr} {l c : Nat} {t : Ty} (k : TyIs (veil P w) hd p l c t) : TyIs (veil P w') hd p l c t := k.reads' h.reads
theorem Kp.kids (h : Kp P w w') {p : Option Addr} {ts : List Ty} (k : Kids (veil P w) p ts) : Kids (veil P w') p ts := k.reads' h.reads
end
/-- Where a book lies: its own block, its map of types, its map of marks. -/
structure Bk where
  b : Nat
  s : Nat
  i : Nat
def bkCells (k : Bk) (up : Option Addr) (n : Nat) : Array Value := #[.pointer up, .int .i64 (n : Int), .map (some k.s), .map (some k.i)]
/-- A map of types. -/
def StAt (P : Nat → Bool) (w : World) (b : Nat) (f : Nat → Option Ty) : Prop :=
  ∃ F, MapAt w b F ∧ ∀ i, (f i = none ∧ F i = none) ∨ ∃ t h p l c, f i = some t ∧ F i = some (.agg #[.int .u8 h.k, .int .i64 h.v, .slice p l c]) ∧ TyIs (veil P w) h p l c t
/-- A map of marks. -/
def InAt (w : World) (b : Nat) (g : Nat → Bool) : Prop := ∃ F, MapAt w b F ∧ ∀ i, (F i = none ∧ g i = false) ∨ (F i = some (.bool true) ∧ g i = true)
/-- A book. -/
structure BkAt (P : Nat → Bool) (w : World) (k : Bk) (up : Option Addr) (n : Nat) (e : Nat → Option Ty) (g : Nat → Bool) : Prop where
  box : w.heap[k.b]? = some (.cells (bkCells k up n) 59 (0, 0))
  st : StAt P w k.s e
  inn : InAt w k.i g
  pb : P k.b = false
  ps : P k.s = false
  pi : P k.i = false
  bs : k.b ≠ k.s
  bi : k.b ≠ k.i
  si : k.s ≠ k.i
  lt : ∀ v t, e v = some t → v < n
  glt : ∀ v, g v = true → v < n
  few : n ≤ 1000000000
section
variable {P : Nat → Bool} {w w' : World} {k : Bk} {up : Option Addr} {n : Nat} {e : Nat → Option Ty} {g : Nat → Bool}
theorem StAt.keep {b : Nat} {f : Nat → Option Ty} (h : StAt P w b f) (hb : w'.heap[b]? = w.heap[b]?) (hr : Reads (veil P w) (veil P w')) : StAt P w' b f := by
  obtain ⟨F, h1, h2⟩ := h
  refine ⟨F, h1.of_block hb, fun i => (h2 i).imp _root_.id ?_⟩
  rintro ⟨t, h, p, l, c, e1, e2, hT⟩
  exact ⟨t, h, p, l, c, e1, e2, hT.reads' hr⟩
theorem InAt.keep {b : Nat} {g : Nat → Bool} (h : InAt w b g) (hb : w'.heap[b]? = w.heap[b]?) : InAt w' b g := by
  obtain ⟨F, h1, h2⟩ := h
  exact ⟨F, h1.of_block hb, h2⟩
theorem StAt.lt {b : Nat} {f : Nat → Option Ty} (h : StAt P w b f) : b < w.heap.size := by obtain ⟨F, h, _⟩ := h; exact h.lt
theorem InAt.lt {b : Nat} {g : Nat → Bool} (h : InAt w b g) : b < w.heap.size := by obtain ⟨F, h, _⟩ := h; exact h.lt
theorem BkAt.keep {P' : Nat → Bool} (h : BkAt P w k up n e g) (hk : Kp P' w w') (hp : ∀ b, P b = true → P' b = true) (h1 : P' k.b = true) (h2 : P' k.s = true) (h3 : P' k.i = true) : BkAt P w' k up n e g :=
  { h with
    box := (hk.block _ (lt_of_block h.box) h1).trans h.box
    st := h.st.keep (hk.block _ h.st.lt h2) (hk.mono hp).reads
    inn := h.inn.keep (hk.block _ h.inn.lt h3) }
theorem BkAt.below (h : BkAt P w k up n e g) (hb : Below w.heap.size w w') : BkAt P w' k up n e g :=
  h.keep (P' := fun _ => true) (Kp.of_below hb) (fun _ _ => rfl) rfl rfl rfl
theorem BkAt.alloc (h : BkAt P w k up n e g) (o : Obj) : BkAt P (w.alloc o) k up n e g := h.below ((Below.refl _ _).alloc (Nat.le_refl _) o)
theorem bkc {W : World} {k : Bk} {up : Option Addr} {n : Nat} (h : W.heap[k.b]? = some (.cells (bkCells k up n) 59 (0, 0))) : W.cell? ⟨k.b, 0, none⟩ = some (.pointer up) ∧ W.cell? ⟨k.b, 1, none⟩ = some (.int .i64 (n : Int)) ∧ W.cell? ⟨k.b, 2, none⟩ = some (.map (some k.s)) ∧ W.cell? ⟨k.b, 3, none⟩ = some (.map (some k.i)) ∧ k.b < W.heap.size := by
  have hl := lt_of_block h
  unfold bkCells at h
  refine ⟨?_, ?_, ?_, ?_, hl⟩ <;> simp [World.cell?, h]
theorem BkAt.cells (h : BkAt P w k up n e g) : w.cell? ⟨k.b, 0, none⟩ = some (.pointer up) ∧ w.cell? ⟨k.b, 1, none⟩ = some (.int .i64 (n : Int)) ∧ w.cell? ⟨k.b, 2, none⟩ = some (.map (some k.s)) ∧ w.cell? ⟨k.b, 3, none⟩ = some (.map (some k.i)) ∧ w.frozen? ⟨k.b, 1, none⟩ = false := by
  have := h.box
  unfold bkCells at this
  simp [World.cell?, World.frozen?, this]
/-- What stands at a variable, as a value. -/
theorem StAt.at {b : Nat} {f : Nat → Option Ty} (h : StAt P w b f) : ∃ F, MapAt w b F ∧ ∀ i, (f i = none ∧ F i = none) ∨ ∃ t h p l c, f i = some t ∧ F i = some (.agg #[.int .u8 h.k, .int .i64 h.v, .slice p l c]) ∧ TyIs (veil P w) h p l c t := h
/-- One more stands there. -/
theorem StAt.put {b : Nat} {f : Nat → Option Ty} {F : Nat → Option Value} {i : Nat} {t : Ty} {hd : Hd} {p : Option Addr} {l c : Nat} (h2 : ∀ i, (f i = none ∧ F i = none) ∨ ∃ t h p l c, f i = some t ∧ F i = some (.agg #[.int .u8 h.k, .int .i64 h.v, .slice p l c]) ∧ TyIs (veil P w) h p l c t)
    (hT : TyIs (veil P w) hd p l c t) (hm : MapAt w' b (upd F i (some (.agg #[.int .u8 hd.k, .int .i64 hd.v, .slice p l c])))) (hr : Reads (veil P w) (veil P w')) : StAt P w' b (upd f i (some t)) := by
  refine ⟨_, hm, fun j => ?_⟩
  by_cases e : j = i
  · subst e
    rw [upd_same, upd_same]
    exact .inr ⟨t, hd, p, l, c, rfl, rfl, hT.reads' hr⟩
  · rw [upd_other _ _ e, upd_other _ _ e]
    refine (h2 j).imp _root_.id ?_
    rintro ⟨t, h, p, l, c, e1, e2, hT⟩
    exact ⟨t, h, p, l, c, e1, e2, hT.reads' hr⟩
end
theorem c3 {W : World} {N : Nat} {a b c : Value} {ty : TypeId} (h : W.heap[N]? = some (.cells #[a, b, c] ty (0, 0))) :
    (W.cell? ⟨N, 0, none⟩ = some a ∧ W.cell? ⟨N, 1, none⟩ = some b ∧ W.cell? ⟨N, 2, none⟩ = some c) ∧ (W.frozen? ⟨N, 0, none⟩ = false ∧ W.frozen? ⟨N, 1, none⟩ = false ∧ W.frozen? ⟨N, 2, none⟩ = false) ∧ N < W.heap.size := by
  refine ⟨?_, ?_, lt_of_block h⟩ <;> simp [World.cell?, World.frozen?, h]
theorem al_new {W : World} (o : Obj) : Below W.heap.size W (W.alloc o) := (Below.refl _ _).alloc (Nat.le_refl _) o

set_option maxRecDepth 10000 in
set_option maxHeartbeats 1600000 in
theorem variable_walk (v : Int) (w : World) : Calls Tryd.prog 25 #[.int .i64 v] w fun e w' => e = .returned (.agg #[.int .u8 5, .int .i64 v, .slice none 0 0]) ∧ Below w.heap.size w w' := by
  go_enter Tryd.func25, Tryd.ntmps25
  have hb : ∀ O, Below w.heap.size w (w.alloc O) := fun O => (Below.refl _ _).alloc (Nat.le_refl _) O
  have HB := Lib.hid hb
  clear hb
  go_wp2
  obtain ⟨⟨g0, g1, g2⟩, -, gl⟩ := c3 (heap_alloc_new w (.cells #[.int .u8 5, .int .i64 v, .slice none 0 0] 25))
  refine bodyPost_ret (v := .agg #[.int .u8 5, .int .i64 v, .slice none 0 0]) (by simp [results, Tryd.results25, go_sem, g0, g1, g2, gl]) rfl ⟨rfl, HB.out _⟩
set_option maxRecDepth 10000 in
set_option maxHeartbeats 3200000 in
/-- A new book. -/
theorem new_walk (P : Nat → Bool) (w : World) (h0 : P w.heap.size = false) (h1 : P (w.heap.size + 1) = false) (h2 : P (w.heap.size + 2) = false) : Calls Tryd.prog 11 #[] w fun e w' => e = .returned (.pointer (some ⟨w.heap.size + 2, 0, none⟩)) ∧ Below w.heap.size w w' ∧ BkAt P w' ⟨w.heap.size + 2, w.heap.size, w.heap.size + 1⟩ none 0 (fun _ => none) (fun _ => false) ∧ w'.heap.size = w.heap.size + 3 := by
  have hmm := @run_makeMap Tryd.prog
  have hend : BkAt P (((w.alloc (.map #[] 0)).alloc (.map #[] 0)).alloc (.cells (bkCells ⟨w.heap.size + 2, w.heap.size, w.heap.size + 1⟩ none 0) 59)) ⟨w.heap.size + 2, w.heap.size, w.heap.size + 1⟩ none 0 (fun _ => none) (fun _ => false) := by
    have m1 := MapAt.new w
    have m2 := MapAt.new (w.alloc (.map #[] 0))
    rw [show (w.alloc (.map #[] 0)).heap.size = w.heap.size + 1 by simp] at m2
    have b1 := al_new (W := w.alloc (.map #[] 0)) (.map #[] 0)
    have b2 := al_new (W := (w.alloc (.map #[] 0)).alloc (.map #[] 0)) (.cells (bkCells ⟨w.heap.size + 2, w.heap.size, w.heap.size + 1⟩ none 0) 59)
    have z1 : (w.alloc (.map #[] 0)).heap.size = w.heap.size + 1 := by simp
    have z2 : ((w.alloc (.map #[] 0)).alloc (.map #[] 0)).heap.size = w.heap.size + 2 := by simp
    refine ⟨?_, ⟨_, (m1.of_block (b1.block _ (by omega))).of_block (b2.block _ (by omega)), fun i => .inl ⟨rfl, rfl⟩⟩, ⟨_, m2.of_block (b2.block _ (by omega)), fun i => .inl ⟨rfl, rfl⟩⟩, h2, h0, h1, by show w.heap.size + 2 ≠ w.heap.size; omega, by show w.heap.size + 2 ≠ w.heap.size + 1; omega, by show w.heap.size ≠ w.heap.size + 1; omega, fun v t h => (by cases h), fun v h => (by cases h), by omega⟩
    have := heap_alloc_new ((w.alloc (.map #[] 0)).alloc (.map #[] 0)) (.cells (bkCells ⟨w.heap.size + 2, w.heap.size, w.heap.size + 1⟩ none 0) 59)
    rw [z2] at this
    exact this
  have hb : Below w.heap.size w (((w.alloc (.map #[] 0)).alloc (.map #[] 0)).alloc (.cells (bkCells ⟨w.heap.size + 2, w.heap.size, w.heap.size + 1⟩ none 0) 59)) := (((Below.refl _ _).alloc (Nat.le_refl _) _).alloc (by simp) _).alloc (by simp; omega) _
  have HE := Lib.hid (And.intro hend hb)
  clear hend hb h0 h1 h2
  go_enter Tryd.func11, Tryd.ntmps11
  go_wp2
  go_ret
  exact ⟨rfl, HE.out.2, HE.out.1, by simp⟩
/-- The book under a trial. -/
abbrev Up := Option (Bk × Nat × (Nat → Option Ty))
def upAddr (u : Up) : Option Addr := u.map fun x => ⟨x.1.b, 0, none⟩
def cmb (u : Up) (e : Nat → Option Ty) (v : Nat) : Option Ty := match e v with
  | some t => some t
  | none => match u with
    | none => none
    | some x => x.2.2 v
def UpOk (P : Nat → Bool) (w : World) (k : Bk) (u : Up) (n : Nat) (g : Nat → Bool) : Prop := match u with
  | none => True
  | some x => BkAt P w x.1 none x.2.1 x.2.2 g ∧ x.1.i = k.i ∧ x.1.b ≠ k.b ∧ x.1.s ≠ k.s ∧ x.1.b ≠ k.s ∧ x.1.s ≠ k.b ∧ x.2.1 ≤ n
structure TBk (P : Nat → Bool) (w : World) (k : Bk) (u : Up) (n : Nat) (e : Nat → Option Ty) (g : Nat → Bool) : Prop where
  me : BkAt P w k (upAddr u) n e g
  up : UpOk P w k u n g
def zTy : Ty := .node ⟨0, 0⟩ []
def tyO (o : Option Ty) : Ty := o.getD zTy
theorem zTy_is (w : World) : TyIs w ⟨0, 0⟩ none 0 0 zTy := ⟨rfl, rfl, ⟨by decide, by decide⟩, ⟨Nat.le_refl _, Nat.zero_le _⟩, .nokids _⟩
section
variable {P : Nat → Bool} {w w' : World} {k : Bk} {u : Up} {n : Nat} {e : Nat → Option Ty} {g : Nat → Bool}
theorem UpOk.below (h : UpOk P w k u n g) (hb : Below w.heap.size w w') : UpOk P w' k u n g := by
  unfold UpOk at h ⊢
  split
  · trivial
  · exact ⟨h.1.below hb, h.2⟩
theorem TBk.below (h : TBk P w k u n e g) (hb : Below w.heap.size w w') : TBk P w' k u n e g := ⟨h.me.below hb, h.up.below hb⟩
end
theorem F_val {P : Nat → Bool} {w : World} {f : Nat → Option Ty} {F : Nat → Option Value} (h2 : ∀ i, (f i = none ∧ F i = none) ∨ ∃ t h p l c, f i = some t ∧ F i = some (.agg #[.int .u8 h.k, .int .i64 h.v, .slice p l c]) ∧ TyIs (veil P w) h p l c t) (i : Nat) :
    ∃ h p l c, (F i).getD (.agg #[.int .u8 0, .int .i64 0, .slice none 0 0]) = .agg #[.int .u8 h.k, .int .i64 h.v, .slice p l c] ∧ (F i).isSome = (f i).isSome ∧ TyIs (veil P w) h p l c (tyO (f i)) := by
  rcases h2 i with ⟨a, b⟩ | ⟨t, h, p, l, c, a, b, hT⟩
  · rw [a, b]; exact ⟨⟨0, 0⟩, none, 0, 0, rfl, rfl, zTy_is _⟩
  · rw [a, b]; exact ⟨h, p, l, c, rfl, rfl, hT⟩
set_option maxRecDepth 10000 in
set_option maxHeartbeats 6400000 in
theorem stand_walk (P : Nat → Bool) (w : World) (k : Bk) (u : Up) (n : Nat) (e : Nat → Option Ty) (g : Nat → Bool) (v : Nat) (hT : TBk P w k u n e g) (hv : KeyOk v) :
    Calls Tryd.prog 59 #[.pointer (some ⟨k.b, 0, none⟩), .int .i64 (v : Int)] w fun en w' => ∃ h p l c, en = .returned (.agg #[.int .u8 h.k, .int .i64 h.v, .slice p l c]) ∧ TyIs (veil P w) h p l c (tyO (cmb u e v)) ∧ Below w.heap.size w w' := by
  obtain ⟨c0, c1, c2, c3', -⟩ := hT.me.cells
  have kl := lt_of_block hT.me.box
  have hb1 := al_new (W := w) (.cells #[.int .u8 0, .int .i64 0, .slice none 0 0] 25)
  obtain ⟨F, hM, hF⟩ := hT.me.st
  obtain ⟨hd, p, l, c, e1, e2, hTy⟩ := F_val hF v
  have hlk := (hM.of_block (hb1.block _ hM.lt)).look_ok Tryd.underlying56 (zeroTy _) hv
  rw [e1, e2] at hlk
  cases hev : e v with
  | some t =>
    have hc : cmb u e v = some t := by unfold cmb; rw [hev]
    rw [hev] at hlk hTy
    rw [hc]
    have hlk' : (Instr.lookup 56 (.map (some k.s)) (.int .i64 (v : Int)) true).run Tryd.prog (w.alloc (.cells #[.int .u8 0, .int .i64 0, .slice none 0 0] 25)) = .ok (.tuple #[.agg #[.int .u8 hd.k, .int .i64 hd.v, .slice p l c], .bool true]) (w.alloc (.cells #[.int .u8 0, .int .i64 0, .slice none 0 0] 25)) := hlk
    have HT := Lib.hid hTy
    clear hlk hTy hM hF hT e1 e2 hev hc hb1 hv
    go_enter Tryd.func59, Tryd.ntmps59
    go_wp2
    have hz : ((w.alloc (.cells #[.int .u8 hd.k, .int .i64 hd.v, .slice p l c] 25)).alloc (.cells #[.int .u8 hd.k, .int .i64 hd.v, .slice p l c] 25)).heap[w.heap.size]? = some (.cells #[.int .u8 hd.k, .int .i64 hd.v, .slice p l c] 25 (0, 0)) := ((al_new (W := w.alloc (.cells #[.int .u8 hd.k, .int .i64 hd.v, .slice p l c] 25)) _).block _ (by simp)).trans (heap_alloc_new w _)
    obtain ⟨⟨g0, g1, g2⟩, -, gl⟩ := c3 hz
    refine bodyPost_ret (v := .agg #[.int .u8 hd.k, .int .i64 hd.v, .slice p l c]) (by simp [results, Tryd.results59, go_sem, g0, g1, g2, gl]) rfl ⟨hd, p, l, c, rfl, HT.out, ((Below.refl _ _).alloc (Nat.le_refl _) _).alloc (by simp) _⟩
  | none =>
    rw [hev] at hlk hTy
    have hlk' : (Instr.lookup 56 (.map (some k.s)) (.int .i64 (v : Int)) true).run Tryd.prog (w.alloc (.cells #[.int .u8 0, .int .i64 0, .slice none 0 0] 25)) = .ok (.tuple #[.agg #[.int .u8 hd.k, .int .i64 hd.v, .slice p l c], .bool false]) (w.alloc (.cells #[.int .u8 0, .int .i64 0, .slice none 0 0] 25)) := hlk
    cases hu : u with
    | none =>
      have hc : cmb u e v = none := by unfold cmb; rw [hev, hu]
      rw [hu] at c0 hc
      rw [hc]
      have c0' : w.cell? ⟨k.b, 0, none⟩ = some (.pointer none) := c0
      have HT := Lib.hid hTy
      clear hlk hTy hM hF hT e1 e2 hev hc hb1 hv hu c0
      go_enter Tryd.func59, Tryd.ntmps59
      go_wp2
      have hz : ((w.alloc (.cells #[.int .u8 hd.k, .int .i64 hd.v, .slice p l c] 25)).alloc (.cells #[.int .u8 hd.k, .int .i64 hd.v, .slice p l c] 25)).heap[w.heap.size]? = some (.cells #[.int .u8 hd.k, .int .i64 hd.v, .slice p l c] 25 (0, 0)) := ((al_new (W := w.alloc (.cells #[.int .u8 hd.k, .int .i64 hd.v, .slice p l c] 25)) _).block _ (by simp)).trans (heap_alloc_new w _)
      obtain ⟨⟨g0, g1, g2⟩, -, gl⟩ := c3 hz
      refine bodyPost_ret (v := .agg #[.int .u8 hd.k, .int .i64 hd.v, .slice p l c]) (by simp [results, Tryd.results59, go_sem, g0, g1, g2, gl]) rfl ⟨hd, p, l, c, rfl, HT.out, ((Below.refl _ _).alloc (Nat.le_refl _) _).alloc (by simp) _⟩
    | some x =>
      have hup := hT.up
      rw [hu] at hup c0
      have hB : BkAt P w x.1 none x.2.1 x.2.2 g := hup.1
      have hc : cmb (some x) e v = x.2.2 v := by unfold cmb; rw [hev]
      rw [hc]
      have c0' : w.cell? ⟨k.b, 0, none⟩ = some (.pointer (some ⟨x.1.b, 0, none⟩)) := c0
      obtain ⟨d0, d1, d2, d3, -⟩ := hB.cells
      have dl := lt_of_block hB.box
      obtain ⟨F', hM', hF'⟩ := hB.st
      obtain ⟨hd', p', l', c', e1', e2', hTy'⟩ := F_val hF' v
      have hbb : Below w.heap.size w ((w.alloc (.cells #[.int .u8 0, .int .i64 0, .slice none 0 0] 25)).alloc (.cells #[.int .u8 hd.k, .int .i64 hd.v, .slice p l c] 25)) := hb1.alloc (by simp) _
      have hlk2 := (hM'.of_block (hbb.block _ hM'.lt)).look Tryd.underlying56 (zeroTy _) hv
      rw [e1'] at hlk2
      have HT := Lib.hid hTy'
      clear hlk hTy hM hF hT e1 e2 hev hc hb1 hv hu c0 hup hB hM' hF' e1' e2' hTy' hbb
      go_enter Tryd.func59, Tryd.ntmps59
      go_wp2
      have hz : ((w.alloc (.cells #[.int .u8 hd'.k, .int .i64 hd'.v, .slice p' l' c'] 25)).alloc (.cells #[.int .u8 hd.k, .int .i64 hd.v, .slice p l c] 25)).heap[w.heap.size]? = some (.cells #[.int .u8 hd'.k, .int .i64 hd'.v, .slice p' l' c'] 25 (0, 0)) := ((al_new (W := w.alloc (.cells #[.int .u8 hd'.k, .int .i64 hd'.v, .slice p' l' c'] 25)) _).block _ (by simp)).trans (heap_alloc_new w _)
      obtain ⟨⟨g0, g1, g2⟩, -, gl⟩ := c3 hz
      refine bodyPost_ret (v := .agg #[.int .u8 hd'.k, .int .i64 hd'.v, .slice p' l' c']) (by simp [results, Tryd.results59, go_sem, g0, g1, g2, gl]) rfl ⟨hd', p', l', c', rfl, HT.out, ((Below.refl _ _).alloc (Nat.le_refl _) _).alloc (by simp) _⟩
/-! ### What a type's variables are, as they stand there -/
mutual
def evT : Ty → List Int
  | .node h l => (if h.k = 5 then [h.v] else []) ++ evK l
def evK : List Ty → List Int
  | [] => []
  | t :: ts => evT t ++ evK ts
end
theorem evT_eq (t : Ty) : evT t = (if t.h.k = 5 then [t.h.v] else []) ++ evK t.ks := by
  cases t
  conv => lhs; unfold evT
  rfl
theorem evK_nil : evK [] = [] := by unfold evK; rfl
theorem evK_cons (t : Ty) (ts : List Ty) : evK (t :: ts) = evT t ++ evK ts := by conv => lhs; unfold evK
theorem evK_drop (ts : List Ty) (j : Nat) (h : j < ts.length) : evK (ts.drop j) = evT (tget ts j) ++ evK (ts.drop (j + 1)) := by rw [drop_tget ts j h, evK_cons]
/-- Of types that may be. -/
theorem ev_vars : ∀ t, mayT t = true → evT t = (varsT t).map fun v => ((v : Nat) : Int) := by
  refine ty_rec fun t ih hm => ?_
  have hk : ∀ l : List Ty, (∀ u ∈ l, evT u = (varsT u).map fun v => ((v : Nat) : Int)) → evK l = (varsK l).map fun v => ((v : Nat) : Int) := by
    intro l
    induction l with
    | nil => intro _; rw [evK_nil, varsK_nil]; rfl
    | cons x l ihl => intro h; rw [evK_cons, varsK_cons, List.map_append, h x (by simp), ihl fun u hu => h u (by simp [hu])]
  rw [evT_eq, varsT_eq, List.map_append, hk t.ks fun u hu => ih u hu (may_mem hm hu)]
  congr 1
  split
  · have := (may_node hm).2.1
    have e : t.h.v = ((t.h.v.toNat : Nat) : Int) := by omega
    show [t.h.v] = [((t.h.v.toNat : Nat) : Int)]
    rw [← e]
  · rfl
theorem evK_vars (l : List Ty) (h : ∀ u ∈ l, mayT u = true) : evK l = (varsK l).map fun v => ((v : Nat) : Int) := by
  induction l with
  | nil => rw [evK_nil, varsK_nil]; rfl
  | cons x l ihl => rw [evK_cons, varsK_cons, List.map_append, ev_vars x (h x (by simp)), ihl fun u hu => h u (by simp [hu])]
/-- Each step may be gone. -/
def EOk {α : Type} (step : α → Int → α) (ok : α → Int → Prop) : α → List Int → Prop
  | _, [] => True
  | a, v :: vs => ok a v ∧ EOk step ok (step a v) vs
theorem eok_append {α : Type} {step : α → Int → α} {ok : α → Int → Prop} : ∀ {l r : List Int} {a : α}, EOk step ok a (l ++ r) → EOk step ok a l ∧ EOk step ok (l.foldl step a) r
  | [], _, _, h => ⟨trivial, h⟩
  | x :: l, r, a, h => by
    obtain ⟨h1, h2⟩ := h
    obtain ⟨a1, a2⟩ := eok_append (l := l) h2
    exact ⟨⟨h1, a1⟩, a2⟩
theorem eok_all {α : Type} {step : α → Int → α} {ok : α → Int → Prop} (h : ∀ a v, ok a v) : ∀ (l : List Int) (a : α), EOk step ok a l
  | [], _ => trivial
  | x :: l, a => ⟨h a x, eok_all h l _⟩
end Types
end Go.Proofs.YtjchplgapaeagaaDoor
