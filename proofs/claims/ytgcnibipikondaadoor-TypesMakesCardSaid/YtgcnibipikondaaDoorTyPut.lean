/- The program's writer: what it has, and how words are put. -/
import Derived.Test.YtgcnibipikondaaDoorTyCopy
import Derived.OwnWalk
import Derived.Laws.AppendOwn
import Derived.Laws.AppendOwnNone
import Derived.LoopTactic
namespace Go.Proofs.YtgcnibipikondaaDoor
open Go.RowKit
set_option linter.unusedVariables false
namespace Types

def IsStrs (O : Option Obj) : Prop := ∃ cs fz, O = some (.cells cs 9 fz)
/-- What the writer's calls turn: its variable, in block N, rows of texts, and what is new. -/
structure Wrote (N : Nat) (w w' : World) : Prop where
  os : w'.os = w.os
  tape : w'.tape = w.tape
  output : w'.output = w.output
  size : w.heap.size ≤ w'.heap.size
  low : ∀ k, k < w.heap.size → k < N → w'.heap[k]? = w.heap[k]?
  high : ∀ k, k < w.heap.size → k ≠ N → ¬ IsStrs w.heap[k]? → w'.heap[k]? = w.heap[k]?
theorem Wrote.refl (N : Nat) (w : World) : Wrote N w w := ⟨rfl, rfl, rfl, Nat.le_refl _, fun _ _ _ => rfl, fun _ _ _ _ => rfl⟩
theorem Wrote.trans {N : Nat} {a b c : World} (h : Wrote N a b) (k : Wrote N b c) : Wrote N a c :=
  ⟨k.os.trans h.os, k.tape.trans h.tape, k.output.trans h.output, Nat.le_trans h.size k.size, fun i hi hn => (k.low i (Nat.lt_of_lt_of_le hi h.size) hn).trans (h.low i hi hn),
    fun i hi hn hs => (k.high i (Nat.lt_of_lt_of_le hi h.size) hn (by rw [h.high i hi hn hs]; exact hs)).trans (h.high i hi hn hs)⟩
theorem Wrote.of_below {N : Nat} {w w' : World} (h : Below w.heap.size w w') : Wrote N w w' := ⟨h.os, h.tape, h.output, h.size, fun k hk _ => h.block k hk, fun k hk _ _ => h.block k hk⟩
theorem Wrote.alloc {N : Nat} {w w' : World} (h : Wrote N w w') (O : Obj) : Wrote N w (w'.alloc O) := h.trans (Wrote.of_below ((Below.refl _ _).alloc (Nat.le_refl _) O))
theorem Wrote.below {N : Nat} {w w' : World} (h : Wrote N w w') {a : World} (ha : Below N a w) (hN : N ≤ a.heap.size) : Below N a w' :=
  ⟨h.os.trans ha.os, h.tape.trans ha.tape, h.output.trans ha.output, Nat.le_trans ha.size h.size, fun k hk => (h.low k (Nat.lt_of_lt_of_le (Nat.lt_of_lt_of_le hk hN) ha.size) hk).trans (ha.block k hk)⟩
/-- The writer's variable, in block N: the words that it has. -/
def WAt (N : Nat) (ss : List ByteArray) (w : World) : Prop :=
  ∃ v, w.heap[N]? = some (.cells #[v] 45 (0, 0)) ∧ w.ownsRow (N + 1) 9 1 v ss.length (ss.map Value.string)
theorem WAt.lt {N : Nat} {ss : List ByteArray} {w : World} (h : WAt N ss w) : N < w.heap.size := by obtain ⟨v, h, _⟩ := h; exact lt_of_block h
theorem WAt.alloc {N : Nat} {ss : List ByteArray} {w : World} (h : WAt N ss w) (O : Obj) : WAt N ss (w.alloc O) := by
  have hl := h.lt
  obtain ⟨v, h1, h2⟩ := h
  exact ⟨v, by rw [Below.heap_alloc _ _ _ hl]; exact h1, h2.alloc O⟩
theorem WAt.below {N : Nat} {ss : List ByteArray} {w w' : World} (h : WAt N ss w) (hb : Below w.heap.size w w') : WAt N ss w' := by
  have hl := h.lt
  obtain ⟨v, h1, h2⟩ := h
  refine ⟨v, by rw [hb.block _ hl]; exact h1, h2.kept (row := none) ⟨hb.os, hb.tape, hb.output, hb.size, fun k hk _ => hb.block k hk⟩ ?_⟩
  rcases hv : v.ownBlock with _ | g
  · exact .inl rfl
  · exact .inr (by simp)
theorem ownStrs {w : World} {B n : Nat} {v : Value} {xs : List Value} (h : w.ownsRow B 9 1 v n xs) {k : Nat} (hk : ¬ IsStrs w.heap[k]?) : some k ≠ v.ownBlock := by
  intro e
  rcases h.2 with ⟨rfl, _⟩ | ⟨g, cap, cur, rfl, _, hg, _⟩
  · simp [Value.ownBlock] at e
  · simp [Value.ownBlock] at e
    subst e
    exact hk ⟨_, _, hg⟩
theorem cells1_strs (ss : List ByteArray) : ∀ u ∈ ss.map Value.string, u.oneCell' = true := by
  intro u hu
  obtain ⟨x, _, rfl⟩ := List.mem_map.1 hu
  rfl
/-- 'append(words, src...)', words the writer's own, src any texts: none or not. -/
theorem append_strs {P : Program} {w : World} {ops : Array Oper} {rest : List Oper} {o : Oper} {a : Act} {Q : Exit → Act → World → Prop} (hgd : o.guard = none) (s x : Operand) (t : TypeId)
    (ho : o.op = .call { callee := .builtin .append, args := #[s, x], argTypes := #[t, t] })
    (base : Nat) (e : TypeId) (i : TypeInfo) (z : Value) (bytes : Nat) (ht : P.underlying t = some (.slice e)) (hi : P.info? e = some i) (hz : i.zero = some z)
    (hsize : i.size = 1) (hby : i.bytes = bytes) (hzs : z.cells.size = 1)
    (v : Value) (n : Nat) (xs : List Value) (hs : a.eval s = v) (hown : w.ownsRow base e 1 v n xs)
    (p : Option Addr) (m c : Nat) (ss : List ByteArray) (hx : a.eval x = .slice p m c) (hl : ss.length = m)
    (hsrc : (p = none ∧ m = 0 ∧ c = 0 ∧ ss = []) ∨ ∃ ad, p = some ad ∧ ∀ j u, (ss.map Value.string)[j]? = some u → w.cell? (ad.add j) = some u)
    (h63 : n + m ≤ maxLen) (hbytes : (n + m) * bytes ≤ 140737488355328) (hbase : base ≤ w.heap.size)
    (h : ∀ v' w', w'.ownsRow base e 1 v' (n + m) (xs ++ ss.map Value.string) → w.grownBy w' v.ownBlock → wpList P ops Q rest (a.put o.dst v') w') : wpList P ops Q (o :: rest) a w := by
  rcases hsrc with ⟨rfl, rfl, rfl, rfl⟩ | ⟨ad, rfl, hc⟩
  · refine wpList_append_own_none hgd s x t ho base e i 1 ht hi v n xs hs hown hx (h v w ?_ (World.grownBy.refl w _))
    rw [Nat.add_zero, List.map_nil, List.append_nil]
    exact hown
  · exact wpList_append_own w hgd s x t ho base e i z 1 bytes ht hi hz hsize hby hzs (by decide) v n xs hs hown ad m c (ss.map Value.string) hx (by rw [List.length_map, hl, Nat.mul_one]) hc (cells1_strs ss) h63 hbytes hbase (fun v' w' h1 h2 _ => h v' w' h1 h2)
/-- Texts that are handed in: none, or cells. -/
def Src (w : World) (p : Option Addr) (m c : Nat) (ts : List ByteArray) : Prop :=
  ts.length = m ∧ ((p = none ∧ m = 0 ∧ c = 0 ∧ ts = []) ∨ ∃ ad, p = some ad ∧ ∀ j u, (ts.map Value.string)[j]? = some u → w.cell? (ad.add j) = some u)
theorem Src.none (w : World) : Src w .none 0 0 [] := ⟨rfl, .inl ⟨rfl, rfl, rfl, rfl⟩⟩
theorem Src.new (w : World) (ts : List ByteArray) (ty : TypeId) (fz : Nat × Nat) : Src (w.alloc (.cells (ts.map Value.string).toArray ty fz)) (some ⟨w.heap.size, 0, .none⟩) ts.length ts.length ts := by
  refine ⟨rfl, .inr ⟨_, rfl, fun j u hu => ?_⟩⟩
  have e : (⟨w.heap.size, 0, Option.none⟩ : Addr).add j = ⟨w.heap.size, j, Option.none⟩ := by unfold Addr.add; split <;> simp_all
  rw [e]
  unfold World.cell?
  rw [heap_alloc_new]
  simpa using hu
theorem Src.below {w W : World} {p : Option Addr} {m c : Nat} {ts : List ByteArray} (h : Src w p m c ts) (hb : Below w.heap.size w W) : Src W p m c ts := by
  refine ⟨h.1, h.2.imp id ?_⟩
  rintro ⟨ad, hp, hc⟩
  refine ⟨ad, hp, fun j u hu => ?_⟩
  have := hc j u hu
  rw [hb.cell (World.block_lt_of_cell? w _ this)]
  exact this
theorem infoStr : (Tryd.prog.info? 9).map (fun i => (i.zero, i.size, i.bytes)) = some (some (.string ⟨#[]⟩), 1, 16) := by kernel_rfl
/-- How a call of the writer ends. -/
def WEnd (N : Nat) (ss : List ByteArray) (w : World) (e : Ending) (w' : World) : Prop := e = .returned (.tuple #[]) ∧ WAt N ss w' ∧ Wrote N w w'

set_option maxRecDepth 10000 in
set_option maxHeartbeats 1600000 in
theorem put_walk (N : Nat) (ss ts : List ByteArray) (p : Option Addr) (m c : Nat) (w : World) (hW : WAt N ss w) (hS : Src w p m c ts) (hm : ss.length + m ≤ 1000000) :
    Calls Tryd.prog 39 #[.pointer (some ⟨N, 0, none⟩), .slice p m c] w (WEnd N (ss ++ ts) w) := by
  obtain ⟨i0, hi, hz0, hz1, hz2⟩ := info_parts infoStr
  have hN := hW.lt
  obtain ⟨v, hB, hown⟩ := hW
  obtain ⟨va, vc, hv, _, _⟩ := own_slice hown
  subst hv
  have c0 : w.cell? ⟨N, 0, none⟩ = some (.slice va ss.length vc) := by simp [World.cell?, hB]
  have hfin : ∀ v' w', w'.ownsRow (N + 1) 9 1 v' (ss.length + m) (ss.map Value.string ++ ts.map Value.string) → w.grownBy w' (Value.slice va ss.length vc).ownBlock → w'.cell? ⟨N, 0, none⟩ = some (.slice va ss.length vc) ∧ w'.frozen? ⟨N, 0, none⟩ = false ∧ WEnd N (ss ++ ts) w (.returned (.tuple #[])) (w'.setCell ⟨N, 0, none⟩ v') := by
    intro v' w' h1 h2
    have hNv : some N ≠ (Value.slice va ss.length vc).ownBlock := by
      intro e
      have := (hown.lt N e.symm).1
      omega
    have hb' : w'.heap[N]? = some (.cells #[.slice va ss.length vc] 45 (0, 0)) := by rw [h2.block N hN hNv]; exact hB
    have hset : (w'.setCell ⟨N, 0, none⟩ v').heap[N]? = some (.cells #[v'] 45 (0, 0)) := by
      simp [World.setCell, Array.getElem?_modify, hb']
    have hoth : ∀ k, k ≠ N → (w'.setCell ⟨N, 0, none⟩ v').heap[k]? = w'.heap[k]? := fun k hk => Below.heap_setCell _ _ _ _ hk
    have hsz : (w'.setCell ⟨N, 0, none⟩ v').heap.size = w'.heap.size := by simp [World.setCell]
    refine ⟨by simp [World.cell?, hb'], by simp [World.frozen?, hb'], rfl, ⟨v', hset, ?_⟩, ⟨h2.os, h2.tape, h2.output, by rw [hsz]; exact h2.size, fun k hk hkN => ?_, fun k hk hkN hs => ?_⟩⟩
    · rw [List.length_append, hS.1, List.map_append]
      refine ⟨h1.1, h1.2.imp id ?_⟩
      rintro ⟨g, cap, cur, rfl, hg, hgg, rest⟩
      exact ⟨g, cap, cur, rfl, hg, by rw [hoth g (by omega)]; exact hgg, rest⟩
    · rw [hoth k (by omega)]
      exact h2.block k hk (fun e => by have := (hown.lt k e.symm).1; omega)
    · rw [hoth k hkN]
      exact h2.block k hk (ownStrs hown hs)
  have HF := Lib.hid hfin; have HO := Lib.hid hown; have HS := Lib.hid hS; have HM := Lib.hid hm
  have HI := Lib.hid hi; have HZ0 := Lib.hid hz0; have HZ1 := Lib.hid hz1; have HZ2 := Lib.hid hz2; have HN := Lib.hid hN
  clear hfin hown hS hm hi hz0 hz1 hz2 hB hN
  go_enter Tryd.func39, Tryd.ntmps39
  go_wp2_with (at_builtin; refine append_strs rfl (.tmp 8) (.tmp 9) 43 rfl (N + 1) 9 i0 (.string ⟨#[]⟩) 16 Tryd.underlying43 HI.out HZ0.out HZ1.out HZ2.out rfl (.slice va ss.length vc) _ _ rfl HO.out p m c ts rfl HS.out.1 HS.out.2 (by have := HM.out; unfold maxLen; omega) (by have := HM.out; omega) HN.out ?_; intro v3 w3 hown3 hgrow3; obtain ⟨a3, c3, rfl, _, _⟩ := own_slice hown3; obtain ⟨f0, f1, f2⟩ := HF.out _ w3 hown3 hgrow3; have HW := Lib.hid f2; clear hown3 hgrow3 f2)
  go_end0
  exact HW.out
end Types
end Go.Proofs.YtgcnibipikondaaDoor
