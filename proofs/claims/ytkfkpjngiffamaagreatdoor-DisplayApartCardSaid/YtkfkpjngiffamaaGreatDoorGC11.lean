import Derived.Test.YtkfkpjngiffamaaGreatDoorGC10
import Derived.OwnWalk
import Derived.Laws.AppendOwn
import Derived.Laws.AppendOwnNone
import Derived.LoopTactic
import Derived.Test.YtkfkpjngiffamaaGreatDoorGC09
import Derived.Deep.WholeRow
namespace Go.Proofs.YtkfkpjngiffamaaGreatDoor
open Go.RowKit
set_option linter.unusedVariables false
namespace Rt
open Effect (At AtOk AtsAt Rd ofA ret_i64 ret_bool lt_of_block heap_alloc_new own_slice)

def IsStrs (O : Option Obj) : Prop := ∃ cs fz, O = some (.cells cs 9 fz)
structure Wrote (N : Nat) (w w' : World) : Prop where
 os : w'.os = w.os
 tape : w'.tape = w.tape
 output : w'.output = w.output
 size : w.heap.size ≤ w'.heap.size
 low : ∀ k, k < w.heap.size → k < N → w'.heap[k]? = w.heap[k]?
 high : ∀ k, k < w.heap.size → k ≠ N → ¬ IsStrs w.heap[k]? → w'.heap[k]? = w.heap[k]?
theorem Wrote.refl (N : Nat) (w : World) : Wrote N w w := ⟨rfl, rfl, rfl, Nat.le_refl _, fun _ _ _ => rfl, fun _ _ _ _ => rfl⟩
theorem Wrote.trans {N : Nat} {a b c : World} (h : Wrote N a b) (k : Wrote N b c) : Wrote N a c :=
 ⟨k.os.trans h.os, k.tape.trans h.tape, k.output.trans h.output, Nat.le_trans h.size k.size, fun i hi hn => (k.low i (Nat.lt_of_lt_of_le hi h.size) hn).trans (h.low i hi hn),
  fun i hi hn hs => (k.high i (Nat.lt_of_lt_of_le hi h.size) hn (by rw [h.high i hi hn hs]; exact hs)).trans (h.high i hi hn hs)⟩
theorem Wrote.of_below {N : Nat} {w w' : World} (h : Below w.heap.size w w') : Wrote N w w' := ⟨h.os, h.tape, h.output, h.size, fun k hk _ => h.block k hk, fun k hk _ _ => h.block k hk⟩
theorem Wrote.alloc {N : Nat} {w w' : World} (h : Wrote N w w') (O : Obj) : Wrote N w (w'.alloc O) := h.trans (Wrote.of_below ((Below.refl _ _).alloc (Nat.le_refl _) O))
theorem Wrote.below {N : Nat} {w w' : World} (h : Wrote N w w') {a : World} (ha : Below N a w) (hN : N ≤ a.heap.size) : Below N a w' :=
 ⟨h.os.trans ha.os, h.tape.trans ha.tape, h.output.trans ha.output, Nat.le_trans ha.size h.size, fun k hk => (h.low k (Nat.lt_of_lt_of_le (Nat.lt_of_lt_of_le hk hN) ha.size) hk).trans (ha.block k hk)⟩
def WAt (N : Nat) (ss : List ByteArray) (w : World) : Prop :=
 ∃ v, w.heap[N]? = some (.cells #[v] 166 (0, 0)) ∧ w.ownsRow (N + 1) 9 1 v ss.length (ss.map Value.string)
theorem WAt.lt {N : Nat} {ss : List ByteArray} {w : World} (h : WAt N ss w) : N < w.heap.size := by obtain ⟨v, h, _⟩ := h; exact lt_of_block h
theorem WAt.alloc {N : Nat} {ss : List ByteArray} {w : World} (h : WAt N ss w) (O : Obj) : WAt N ss (w.alloc O) := by
 have hl := h.lt
 obtain ⟨v, h1, h2⟩ := h
 exact ⟨v, by rw [Below.heap_alloc _ _ _ hl]; exact h1, h2.alloc O⟩
theorem WAt.below {N : Nat} {ss : List ByteArray} {w w' : World} (h : WAt N ss w) (hb : Below w.heap.size w w') : WAt N ss w' := by
 have hl := h.lt
 obtain ⟨v, h1, h2⟩ := h
 refine ⟨v, by rw [hb.block _ hl]; exact h1, h2.kept (row := none) ⟨hb.os, hb.tape, hb.output, hb.size, fun k hk _ => hb.block k hk⟩ ?_⟩
 rcases hv : v.ownBlock with _ | g
 ·exact .inl rfl
 ·exact .inr (by simp)
theorem ownStrs {w : World} {B n : Nat} {v : Value} {xs : List Value} (h : w.ownsRow B 9 1 v n xs) {k : Nat} (hk : ¬ IsStrs w.heap[k]?) : some k ≠ v.ownBlock := by
 intro e
 rcases h.2 with ⟨rfl, _⟩ | ⟨g, cap, cur, rfl, _, hg, _⟩
 ·simp [Value.ownBlock] at e
 ·simp [Value.ownBlock] at e
  subst e
  exact hk ⟨_, _, hg⟩
theorem cells1_strs (ss : List ByteArray) : ∀ u ∈ ss.map Value.string, u.oneCell' = true := by
 intro u hu
 obtain ⟨x, _, rfl⟩ := List.mem_map.1 hu
 rfl
theorem append_strs {P : Program} {w : World} {ops : Array Oper} {rest : List Oper} {o : Oper} {a : Act} {Q : Exit → Act → World → Prop} (hgd : o.guard = none) (s x : Operand) (t : TypeId)
  (ho : o.op = .call { callee := .builtin .append, args := #[s, x], argTypes := #[t, t] })
  (base : Nat) (e : TypeId) (i : TypeInfo) (z : Value) (bytes : Nat) (ht : P.underlying t = some (.slice e)) (hi : P.info? e = some i) (hz : i.zero = some z)
  (hsize : i.size = 1) (hby : i.bytes = bytes) (hzs : z.cells.size = 1)
  (v : Value) (n : Nat) (xs : List Value) (hs : a.eval s = v) (hown : w.ownsRow base e 1 v n xs)
  (p : Option Addr) (m c : Nat) (ss : List ByteArray) (hx : a.eval x = .slice p m c) (hl : ss.length = m)
  (hsrc : (p = none ∧ m = 0 ∧ c = 0 ∧ ss = []) ∨ ∃ ad, p = some ad ∧ ∀ j u, (ss.map Value.string)[j]? = some u → w.cell? (ad.add j) = some u)
  (h63 : n + m ≤ maxLen) (hbytes : (n + m) * bytes ≤ 140737488355328) (hbase : base ≤ w.heap.size)
  (h : ∀ v' w', w'.ownsRow base e 1 v' (n + m) (xs ++ ss.map Value.string) → w.grownBy w' v.ownBlock → wpList P ops Q rest (a.put o.dst v') w') : wpList P ops Q (o :: rest) a w := by
 rcases hsrc with ⟨rfl, rfl, rfl, rfl⟩ | ⟨ad, rfl, hc⟩
 ·refine wpList_append_own_none hgd s x t ho base e i 1 ht hi v n xs hs hown hx (h v w ?_ (World.grownBy.refl w _))
  rw [Nat.add_zero, List.map_nil, List.append_nil]
  exact hown
 ·exact wpList_append_own w hgd s x t ho base e i z 1 bytes ht hi hz hsize hby hzs (by decide) v n xs hs hown ad m c (ss.map Value.string) hx (by rw [List.length_map, hl, Nat.mul_one]) hc (cells1_strs ss) h63 hbytes hbase (fun v' w' h1 h2 _ => h v' w' h1 h2)
def Src (w : World) (p : Option Addr) (m c : Nat) (ts : List ByteArray) : Prop :=
 ts.length = m ∧ ((p = none ∧ m = 0 ∧ c = 0 ∧ ts = []) ∨ ∃ ad, p = some ad ∧ ∀ j u, (ts.map Value.string)[j]? = some u → w.cell? (ad.add j) = some u)
theorem Src.none (w : World) : Src w .none 0 0 [] := ⟨rfl, .inl ⟨rfl, rfl, rfl, rfl⟩⟩
theorem Src.new (w : World) (ts : List ByteArray) (ty : TypeId) (fz : Nat × Nat) : Src (w.alloc (.cells (ts.map Value.string).toArray ty fz)) (some ⟨w.heap.size, 0, .none⟩) ts.length ts.length ts := by
 refine ⟨rfl, .inr ⟨_, rfl, fun j u hu => ?_⟩⟩
 have e : (⟨w.heap.size, 0, Option.none⟩ : Addr).add j = ⟨w.heap.size, j, Option.none⟩ := by unfold Addr.add; split <;> simp_all
 rw [e]
 unfold World.cell?
 rw [heap_alloc_new]
 simpa using hu
theorem Src.below {w W : World} {p : Option Addr} {m c : Nat} {ts : List ByteArray} (h : Src w p m c ts) (hb : Below w.heap.size w W) : Src W p m c ts := by
 refine ⟨h.1, h.2.imp id ?_⟩
 rintro ⟨ad, hp, hc⟩
 refine ⟨ad, hp, fun j u hu => ?_⟩
 have := hc j u hu
 rw [hb.cell (World.block_lt_of_cell? w _ this)]
 exact this
theorem infoStr : (Tryz.prog.info? 9).map (fun i => (i.zero, i.size, i.bytes)) = some (some (.string ⟨#[]⟩), 1, 16) := by kernel_rfl
def WEnd (N : Nat) (ss : List ByteArray) (w : World) (e : Ending) (w' : World) : Prop := e = .returned (.tuple #[]) ∧ WAt N ss w' ∧ Wrote N w w'

set_option maxRecDepth 10000 in
set_option maxHeartbeats 1600000 in
theorem put_walk (N : Nat) (ss ts : List ByteArray) (p : Option Addr) (m c : Nat) (w : World) (hW : WAt N ss w) (hS : Src w p m c ts) (hm : ss.length + m ≤ 1000000) :
  Calls Tryz.prog 145 #[.pointer (some ⟨N, 0, none⟩), .slice p m c] w (WEnd N (ss ++ ts) w) := by
 obtain ⟨i0, hi, hz0, hz1, hz2⟩ := info_parts infoStr
 have hN := hW.lt
 obtain ⟨v, hB, hown⟩ := hW
 obtain ⟨va, vc, hv, _, _⟩ := own_slice hown
 subst hv
 have c0 : w.cell? ⟨N, 0, none⟩ = some (.slice va ss.length vc) := by simp [World.cell?, hB]
 have hfin : ∀ v' w', w'.ownsRow (N + 1) 9 1 v' (ss.length + m) (ss.map Value.string ++ ts.map Value.string) → w.grownBy w' (Value.slice va ss.length vc).ownBlock → w'.cell? ⟨N, 0, none⟩ = some (.slice va ss.length vc) ∧ w'.frozen? ⟨N, 0, none⟩ = false ∧ WEnd N (ss ++ ts) w (.returned (.tuple #[])) (w'.setCell ⟨N, 0, none⟩ v') := by
  intro v' w' h1 h2
  have hNv : some N ≠ (Value.slice va ss.length vc).ownBlock := by
   intro e
   have := (hown.lt N e.symm).1
   omega
  have hb' : w'.heap[N]? = some (.cells #[.slice va ss.length vc] 166 (0, 0)) := by rw [h2.block N hN hNv]; exact hB
  have hset : (w'.setCell ⟨N, 0, none⟩ v').heap[N]? = some (.cells #[v'] 166 (0, 0)) := by
   simp [World.setCell, Array.getElem?_modify, hb']
  have hoth : ∀ k, k ≠ N → (w'.setCell ⟨N, 0, none⟩ v').heap[k]? = w'.heap[k]? := fun k hk => Below.heap_setCell _ _ _ _ hk
  have hsz : (w'.setCell ⟨N, 0, none⟩ v').heap.size = w'.heap.size := by simp [World.setCell]
  refine ⟨by simp [World.cell?, hb'], by simp [World.frozen?, hb'], rfl, ⟨v', hset, ?_⟩, ⟨h2.os, h2.tape, h2.output, by rw [hsz]; exact h2.size, fun k hk hkN => ?_, fun k hk hkN hs => ?_⟩⟩
  ·rw [List.length_append, hS.1, List.map_append]
   refine ⟨h1.1, h1.2.imp id ?_⟩
   rintro ⟨g, cap, cur, rfl, hg, hgg, rest⟩
   exact ⟨g, cap, cur, rfl, hg, by rw [hoth g (by omega)]; exact hgg, rest⟩
  ·rw [hoth k (by omega)]
   exact h2.block k hk (fun e => by have := (hown.lt k e.symm).1; omega)
  ·rw [hoth k hkN]
   exact h2.block k hk (ownStrs hown hs)
 have HF := Lib.hid hfin; have HO := Lib.hid hown; have HS := Lib.hid hS; have HM := Lib.hid hm
 have HI := Lib.hid hi; have HZ0 := Lib.hid hz0; have HZ1 := Lib.hid hz1; have HZ2 := Lib.hid hz2; have HN := Lib.hid hN
 clear hfin hown hS hm hi hz0 hz1 hz2 hB hN
 go_enter Tryz.func145, Tryz.ntmps145
 go_wp2_with (at_builtin; refine append_strs rfl (.tmp 8) (.tmp 9) 32 rfl (N + 1) 9 i0 (.string ⟨#[]⟩) 16 Tryz.underlying32 HI.out HZ0.out HZ1.out HZ2.out rfl (.slice va ss.length vc) _ _ rfl HO.out p m c ts rfl HS.out.1 HS.out.2 (by have := HM.out; unfold maxLen; omega) (by have := HM.out; omega) HN.out ?_; intro v3 w3 hown3 hgrow3; obtain ⟨a3, c3, rfl, _, _⟩ := own_slice hown3; obtain ⟨f0, f1, f2⟩ := HF.out _ w3 hown3 hgrow3; have HW := Lib.hid f2; clear hown3 hgrow3 f2)
 go_end0
 exact HW.out
end Rt
end Go.Proofs.YtkfkpjngiffamaaGreatDoor
namespace Go.Proofs.YtkfkpjngiffamaaGreatDoor
open Go.RowKit
set_option linter.unusedVariables false
set_option linter.unusedSimpArgs false
namespace Rt
open Effect (At AtOk AtsAt Rd ofA ret_i64 ret_bool lt_of_block heap_alloc_new textE digs NumLaid)
open Types (wInt wOpen wShut wStar wRef wArrow)

def St (N : Nat) (w : World) (O : Obj) (ss : List ByteArray) (W : World) : Prop := WAt N ss W ∧ Wrote N w W ∧ W.heap[w.heap.size]? = some O
theorem St.start {N : Nat} {w : World} {ss : List ByteArray} (O : Obj) (h : WAt N ss w) : St N w O ss (w.alloc O) := ⟨h.alloc O, (Wrote.refl N w).alloc O, heap_alloc_new w O⟩
theorem St.alloc {N : Nat} {w W : World} {O : Obj} {ss : List ByteArray} (h : St N w O ss W) (O' : Obj) : St N w O ss (W.alloc O') := ⟨h.1.alloc O', h.2.1.alloc O', (Below.heap_alloc _ _ _ (lt_of_block h.2.2)).trans h.2.2⟩
theorem not_strs {cs : Array Value} {fz : Nat × Nat} : ¬ IsStrs (some (.cells cs 28 fz)) := by
 rintro ⟨cs', fz', h⟩
 simp at h
theorem St.next {N : Nat} {w W W' : World} {cs : Array Value} {ss ss' : List ByteArray} (h : St N w (.cells cs 28 (0, 0)) ss W) (hN : N < w.heap.size) (hA : WAt N ss' W') (hW : Wrote N W W') : St N w (.cells cs 28 (0, 0)) ss' W' :=
 ⟨hA, h.2.1.trans hW, (hW.high _ (lt_of_block h.2.2) (by omega) (by rw [h.2.2]; exact not_strs)).trans h.2.2⟩
theorem St.quiet {N : Nat} {w W W' : World} {O : Obj} {ss : List ByteArray} (h : St N w O ss W) (hb : Below W.heap.size W W') : St N w O ss W' :=
 ⟨h.1.below hb, h.2.1.trans (Wrote.of_below hb), (hb.block _ (lt_of_block h.2.2)).trans h.2.2⟩
theorem St.low {N : Nat} {w0 w W : World} {O : Obj} {ss : List ByteArray} (h : St N w O ss W) (hb : Below w0.heap.size w0 w) (hN : w0.heap.size ≤ N) : Below w0.heap.size w0 W :=
 ⟨h.2.1.os.trans hb.os, h.2.1.tape.trans hb.tape, h.2.1.output.trans hb.output, Nat.le_trans hb.size h.2.1.size, fun k hk => (h.2.1.low k (Nat.lt_of_lt_of_le hk hb.size) (by omega)).trans (hb.block k hk)⟩
theorem put_n {N : Nat} {w : World} {cs : Array Value} (hN : N < w.heap.size) (ts : List ByteArray) (W : World) (M m : Nat) (ss : List ByteArray) (hM : M = W.heap.size) (hm : ts.length = m) (h : St N w (.cells cs 28 (0, 0)) ss W) (hz : ss.length + m ≤ 1000000) :
  Calls Tryz.prog 145 #[.pointer (some ⟨N, 0, none⟩), .slice (some ⟨M, 0, none⟩) m m] (W.alloc (.cells (ts.map Value.string).toArray 9)) fun e W' => e = .returned (.tuple #[]) ∧ St N w (.cells cs 28 (0, 0)) (ss ++ ts) W' := by
 subst hM hm
 refine (put_walk N ss ts (some ⟨W.heap.size, 0, none⟩) ts.length ts.length (W.alloc (.cells (ts.map Value.string).toArray 9)) (h.1.alloc _) (Src.new W ts _ _) hz).mono ?_
 rintro e W' ⟨rfl, hA, hW⟩
 exact ⟨rfl, (h.alloc _).next hN hA hW⟩
def TypOf (w0 : World) (N m : Nat) : Prop := ∀ (t : RT) (h : Hd) (pe : Option Addr) (ne ce : Nat) (p : Option Addr) (l c : Nat) (ss : List ByteArray) (w : World), wt t ≤ m → mayT t = true → allT (effB 1000) t = true → RtIs w0 h pe ne ce p l c t → Below w0.heap.size w0 w → WAt N ss w → ss.length + 8 * wt t ≤ 1000000 →
 Calls Tryz.prog 130 #[.pointer (some ⟨N, 0, none⟩), .agg #[.int .u8 h.k, .int .i64 h.r, .slice pe ne ce, .slice p l c]] w (WEnd N (ss ++ wordsT t) w)
theorem st_end {N : Nat} {w W : World} {O : Obj} {ss : List ByteArray} (h : St N w O ss W) : WEnd N ss w (.returned (.tuple #[])) W := ⟨rfl, h.1, h.2.1⟩
theorem kid_at {w0 : World} {h : Hd} {pe : Option Addr} {ne ce : Nat} {p : Option Addr} {l c : Nat} {t : RT} (hI : RtIs w0 h pe ne ce p l c t) (hl : 0 < l) : ∃ b o, p = some ⟨b, o, none⟩ ∧ ∀ i, i < l → ∃ qe de q d, RtIs w0 (tget t.ks i).h qe (tget t.ks i).h.e.length de q (tget t.ks i).ks.length d (tget t.ks i) ∧ ∀ W, Below w0.heap.size w0 W →
  W.cell? ⟨b, o + i * 4, none⟩ = some (.int .u8 (tget t.ks i).h.k) ∧ W.cell? ⟨b, o + i * 4 + 1, none⟩ = some (.int .i64 (tget t.ks i).h.r) ∧ W.cell? ⟨b, o + i * 4 + 2, none⟩ = some (.slice qe (tget t.ks i).h.e.length de) ∧ W.cell? ⟨b, o + i * 4 + 3, none⟩ = some (.slice q (tget t.ks i).ks.length d) := by
 have hlen := hI.len
 obtain ⟨b, o, q, d, qe, de, hp, -⟩ := hI.kids.get 0 (by omega)
 refine ⟨b, o, hp, fun i hi => ?_⟩
 obtain ⟨b', o', q', d', qe', de', hp', hT, c0, c1, c2, c3⟩ := hI.kids.get i (by omega)
 rw [hp] at hp'
 injection hp' with hp'
 injection hp' with e1 e2
 subst e1 e2
 refine ⟨qe', de', q', d', hT, fun W hb => ?_⟩
 have hR := fun (a : Addr) (v : Value) (hv : w0.cell? a = some v) => (hb.cell (World.block_lt_of_cell? w0 _ hv)).trans hv
 exact ⟨hR _ _ c0, hR _ _ c1, hR _ _ c2, hR _ _ c3⟩

set_option maxRecDepth 10000 in
set_option maxHeartbeats 6400000 in
theorem typ_1 (w0 : World) (N m : Nat) (hN0 : w0.heap.size ≤ N) (hnl : NumLaid w0) (hT : TypOf w0 N m) (t : RT) (v : Int) (e : List At) (pe : Option Addr) (ne ce : Nat) (p : Option Addr) (l c : Nat) (ss : List ByteArray) (w : World) (hm : wt t ≤ m + 1) (hok : mayT t = true) (hef : allT (effB 1000) t = true) (hI : RtIs w0 ⟨1, v, e⟩ pe ne ce p l c t) (hb : Below w0.heap.size w0 w) (hW : WAt N ss w) (hz : ss.length + 8 * wt t ≤ 1000000) :
  Calls Tryz.prog 130 #[.pointer (some ⟨N, 0, none⟩), .agg #[.int .u8 1, .int .i64 v, .slice pe ne ce, .slice p l c]] w (WEnd N (ss ++ wordsT t) w) := by
 have hNl := hW.lt
 have hlen := hI.len
 have hnode := (may_node hok).1
 rw [hI.head] at hnode
 have hcap := hI.cap
 have hef2 := hef
 rw [allT_eq, Bool.and_eq_true, hI.head] at hef2
 have hv0 := (may_node hok).2.1
 rw [hI.head] at hv0
 have hv1 := hI.ok.r
 simp only at hv0 hv1
 obtain rfl : l = 0 := by
  rcases hnode with ⟨_, h, _⟩ | ⟨h, _⟩ | ⟨h | h, _⟩ <;> first | omega | (simp at h)
 have es : ss ++ wordsT t = ss ++ [wInt] := by
  rw [wordsT_eq, hI.head]
  unfold comb
  simp []
 have hp0 := fun W M hM hSt => put_n (cs := #[.int .u8 1, .int .i64 v, .slice pe ne ce, .slice p 0 c]) hNl [wInt] W M 1 (ss) hM rfl hSt (by have := wt_pos t; simp; omega)
 have hin := inRegion_walk ⟨1, v, e⟩ pe ne ce p 0 c
 simp only at hin
 have hs := St.start (.cells #[.int .u8 1, .int .i64 v, .slice pe ne ce, .slice p 0 c] 28 (0, 0)) hW
 have ES := Lib.hid es; have HS := Lib.hid hs; have HIN := Lib.hid hin; have H0 := Lib.hid hp0
 have hcl : c ≤ 9223372036854775807 := hcap.2
 have hcq := hcap.1
 clear es hs hin hp0 hlen hnode hcap hT hI hb hW hok hm hz hef hef2 hnl hv0 hv1
 go_enter Tryz.func130, Tryz.ntmps130
 go_wp2_with (fail)
 refine (HIN.out _).mono ?_
 rintro en w0' ⟨rfl, hb0'⟩
 have HSA := Lib.hid (HS.out.quiet hb0')
 clear hb0'
 rw [show decide ((1 : Int) ≠ 1) = false from by decide]
 obtain ⟨⟨c0, c1, c2, c3⟩, -⟩ := cells4 HSA.out.2.2
 go_wp2_with (fail)
 refine (H0.out _ _ rfl HSA.out).mono ?_
 rintro en w1 ⟨rfl, h0⟩
 have HS1 := Lib.hid h0
 clear h0 c0 c1 c2 c3
 obtain ⟨⟨c0, c1, c2, c3⟩, -⟩ := cells4 HS1.out.2.2
 go_wp2_with (fail)
 go_end0
 rw [ES.out]
 exact st_end HS1.out

set_option maxRecDepth 10000 in
set_option maxHeartbeats 6400000 in
theorem typ_2 (w0 : World) (N m : Nat) (hN0 : w0.heap.size ≤ N) (hnl : NumLaid w0) (hT : TypOf w0 N m) (t : RT) (v : Int) (e : List At) (pe : Option Addr) (ne ce : Nat) (p : Option Addr) (l c : Nat) (ss : List ByteArray) (w : World) (hm : wt t ≤ m + 1) (hok : mayT t = true) (hef : allT (effB 1000) t = true) (hI : RtIs w0 ⟨2, v, e⟩ pe ne ce p l c t) (hb : Below w0.heap.size w0 w) (hW : WAt N ss w) (hz : ss.length + 8 * wt t ≤ 1000000) :
  Calls Tryz.prog 130 #[.pointer (some ⟨N, 0, none⟩), .agg #[.int .u8 2, .int .i64 v, .slice pe ne ce, .slice p l c]] w (WEnd N (ss ++ wordsT t) w) := by
 have hNl := hW.lt
 have hlen := hI.len
 have hnode := (may_node hok).1
 rw [hI.head] at hnode
 have hcap := hI.cap
 have hef2 := hef
 rw [allT_eq, Bool.and_eq_true, hI.head] at hef2
 have hv0 := (may_node hok).2.1
 rw [hI.head] at hv0
 have hv1 := hI.ok.r
 simp only at hv0 hv1
 obtain rfl : l = 2 := by
  simp at hnode; omega
 obtain ⟨b, o, rfl, hk⟩ := kid_at hI (by omega)
 obtain ⟨qe0, de0, q0, d0, hI0, hc0⟩ := hk 0 (by omega)
 have ok0 := may_kid hok (i := 0) (by omega)
 have ef0 := allK_get _ (j := 0) (by omega) hef2.2
 have wl0 := words_le ok0
 rw [show o + 0 * 4 = o from by omega] at hc0
 obtain ⟨qe1, de1, q1, d1, hI1, hc1⟩ := hk 1 (by omega)
 have ok1 := may_kid hok (i := 1) (by omega)
 have ef1 := allK_get _ (j := 1) (by omega) hef2.2
 have wl1 := words_le ok1
 rw [show o + 1 * 4 = o + 4 from by omega] at hc1
 have hww := wt2 (t := t) (by omega)
 have es : ss ++ wordsT t = ss ++ [wOpen] ++ wordsT (tget t.ks 0) ++ [wStar] ++ wordsT (tget t.ks 1) ++ [wAt, digs v, wShut] := by
  rw [wordsT_eq, hI.head]
  unfold comb
  simp [kw_get (show 0 < t.ks.length by omega), kw_get (show 1 < t.ks.length by omega)]
 have hp0 := fun W M hM hSt => put_n (cs := #[.int .u8 2, .int .i64 v, .slice pe ne ce, .slice (some ⟨b, o, none⟩) 2 c]) hNl [wOpen] W M 1 (ss) hM rfl hSt (by have := wt_pos t; simp; omega)
 have hp1 := fun W (hSt : St N w (.cells #[.int .u8 2, .int .i64 v, .slice pe ne ce, .slice (some ⟨b, o, none⟩) 2 c] 28 (0, 0)) (ss ++ [wOpen]) W) => hT (tget t.ks 0) _ qe0 _ de0 q0 _ d0 (ss ++ [wOpen]) W (by omega) ok0 ef0 hI0 (hSt.low hb hN0) hSt.1 (by simp; omega)
 have hp2 := fun W M hM hSt => put_n (cs := #[.int .u8 2, .int .i64 v, .slice pe ne ce, .slice (some ⟨b, o, none⟩) 2 c]) hNl [wStar] W M 1 (ss ++ [wOpen] ++ wordsT (tget t.ks 0)) hM rfl hSt (by have := wt_pos t; simp; omega)
 have hp3 := fun W (hSt : St N w (.cells #[.int .u8 2, .int .i64 v, .slice pe ne ce, .slice (some ⟨b, o, none⟩) 2 c] 28 (0, 0)) (ss ++ [wOpen] ++ wordsT (tget t.ks 0) ++ [wStar]) W) => hT (tget t.ks 1) _ qe1 _ de1 q1 _ d1 (ss ++ [wOpen] ++ wordsT (tget t.ks 0) ++ [wStar]) W (by omega) ok1 ef1 hI1 (hSt.low hb hN0) hSt.1 (by simp; omega)
 have hp4 := fun W M hM hSt => put_n (cs := #[.int .u8 2, .int .i64 v, .slice pe ne ce, .slice (some ⟨b, o, none⟩) 2 c]) hNl [wAt, digs v, wShut] W M 3 (ss ++ [wOpen] ++ wordsT (tget t.ks 0) ++ [wStar] ++ wordsT (tget t.ks 1)) hM rfl hSt (by have := wt_pos t; simp; omega)
 have hd4 := fun W (hSt : St N w (.cells #[.int .u8 2, .int .i64 v, .slice pe ne ce, .slice (some ⟨b, o, none⟩) 2 c] 28 (0, 0)) (ss ++ [wOpen] ++ wordsT (tget t.ks 0) ++ [wStar] ++ wordsT (tget t.ks 1)) W) => Effect.digitsOf_walk v hv1.1 hv1.2 W (hnl.below (hSt.low hb hN0))
 have hc0' := fun W ss' (hSt : St N w (.cells #[.int .u8 2, .int .i64 v, .slice pe ne ce, .slice (some ⟨b, o, none⟩) 2 c] 28 (0, 0)) ss' W) => hc0 W (hSt.low hb hN0)
 have hc1' := fun W ss' (hSt : St N w (.cells #[.int .u8 2, .int .i64 v, .slice pe ne ce, .slice (some ⟨b, o, none⟩) 2 c] 28 (0, 0)) ss' W) => hc1 W (hSt.low hb hN0)
 have hin := inRegion_walk ⟨2, v, e⟩ pe ne ce (some ⟨b, o, none⟩) 2 c
 simp only at hin
 have hs := St.start (.cells #[.int .u8 2, .int .i64 v, .slice pe ne ce, .slice (some ⟨b, o, none⟩) 2 c] 28 (0, 0)) hW
 have ES := Lib.hid es; have HS := Lib.hid hs; have HIN := Lib.hid hin; have H0 := Lib.hid hp0; have H1 := Lib.hid hp1; have H2 := Lib.hid hp2; have H3 := Lib.hid hp3; have H4 := Lib.hid hp4; have D4 := Lib.hid hd4; have HC0 := Lib.hid hc0'; have HC1 := Lib.hid hc1'
 have hcl : c ≤ 9223372036854775807 := hcap.2
 have hcq := hcap.1
 clear es hs hin hp0 hp1 hp2 hp3 hp4 hd4 hc0' hc0 hI0 ok0 ef0 wl0 hc1' hc1 hI1 ok1 ef1 wl1 hlen hnode hcap hT hI hb hW hok hm hz hef hef2 hnl hv0 hv1 hww hk
 generalize hdg : digs v = dv at *
 clear hdg
 go_enter Tryz.func130, Tryz.ntmps130
 go_wp2_with (fail)
 refine (HIN.out _).mono ?_
 rintro en w0' ⟨rfl, hb0'⟩
 have HSA := Lib.hid (HS.out.quiet hb0')
 clear hb0'
 rw [show decide ((2 : Int) ≠ 1) = true from by decide]
 obtain ⟨⟨c0, c1, c2, c3⟩, -⟩ := cells4 HSA.out.2.2
 go_wp2_with (fail)
 refine (H0.out _ _ rfl HSA.out).mono ?_
 rintro en w1 ⟨rfl, h0⟩
 have HS1 := Lib.hid h0
 clear h0 c0 c1 c2 c3
 obtain ⟨⟨c0, c1, c2, c3⟩, -⟩ := cells4 HS1.out.2.2
 obtain ⟨a0, a1, a2, a3⟩ := HC0.out _ _ HS1.out
 go_wp2_with (fail)
 refine (H1.out _ HS1.out).mono ?_
 rintro en w2 ⟨rfl, hA1, hW1⟩
 have HS2 := Lib.hid (HS1.out.next hNl hA1 hW1)
 clear hA1 hW1 a0 a1 a2 a3 c0 c1 c2 c3
 obtain ⟨⟨c0, c1, c2, c3⟩, -⟩ := cells4 HS2.out.2.2
 go_wp2_with (fail)
 refine (H2.out _ _ rfl HS2.out).mono ?_
 rintro en w3 ⟨rfl, h2⟩
 have HS3 := Lib.hid h2
 clear h2 c0 c1 c2 c3
 obtain ⟨⟨c0, c1, c2, c3⟩, -⟩ := cells4 HS3.out.2.2
 obtain ⟨a0, a1, a2, a3⟩ := HC1.out _ _ HS3.out
 go_wp2_with (fail)
 refine (H3.out _ HS3.out).mono ?_
 rintro en w4 ⟨rfl, hA3, hW3⟩
 have HS4 := Lib.hid (HS3.out.next hNl hA3 hW3)
 clear hA3 hW3 a0 a1 a2 a3 c0 c1 c2 c3
 obtain ⟨⟨c0, c1, c2, c3⟩, -⟩ := cells4 HS4.out.2.2
 go_wp2_with (fail)
 refine (D4.out _ HS4.out).mono ?_
 rintro en wd4 ⟨rfl, hbd4⟩
 have HD4 := Lib.hid (HS4.out.quiet hbd4)
 clear hbd4 c0 c1 c2 c3
 go_wp2_with (fail)
 refine (H4.out _ _ rfl HD4.out).mono ?_
 rintro en w5 ⟨rfl, h4⟩
 have HS5 := Lib.hid h4
 clear h4
 obtain ⟨⟨c0, c1, c2, c3⟩, -⟩ := cells4 HS5.out.2.2
 go_wp2_with (fail)
 go_end0
 rw [ES.out]
 exact st_end HS5.out

set_option maxRecDepth 10000 in
set_option maxHeartbeats 6400000 in
theorem typ_3 (w0 : World) (N m : Nat) (hN0 : w0.heap.size ≤ N) (hnl : NumLaid w0) (hT : TypOf w0 N m) (t : RT) (v : Int) (e : List At) (pe : Option Addr) (ne ce : Nat) (p : Option Addr) (l c : Nat) (ss : List ByteArray) (w : World) (hm : wt t ≤ m + 1) (hok : mayT t = true) (hef : allT (effB 1000) t = true) (hI : RtIs w0 ⟨3, v, e⟩ pe ne ce p l c t) (hb : Below w0.heap.size w0 w) (hW : WAt N ss w) (hz : ss.length + 8 * wt t ≤ 1000000) :
  Calls Tryz.prog 130 #[.pointer (some ⟨N, 0, none⟩), .agg #[.int .u8 3, .int .i64 v, .slice pe ne ce, .slice p l c]] w (WEnd N (ss ++ wordsT t) w) := by
 have hNl := hW.lt
 have hlen := hI.len
 have hnode := (may_node hok).1
 rw [hI.head] at hnode
 have hcap := hI.cap
 have hef2 := hef
 rw [allT_eq, Bool.and_eq_true, hI.head] at hef2
 have hv0 := (may_node hok).2.1
 rw [hI.head] at hv0
 have hv1 := hI.ok.r
 simp only at hv0 hv1
 obtain rfl : l = 1 := by
  simp at hnode; omega
 obtain ⟨b, o, rfl, hk⟩ := kid_at hI (by omega)
 obtain ⟨qe0, de0, q0, d0, hI0, hc0⟩ := hk 0 (by omega)
 have ok0 := may_kid hok (i := 0) (by omega)
 have ef0 := allK_get _ (j := 0) (by omega) hef2.2
 have wl0 := words_le ok0
 rw [show o + 0 * 4 = o from by omega] at hc0
 have hww := wt1 (t := t) (by omega)
 have es : ss ++ wordsT t = ss ++ [wOpen] ++ [wRef] ++ wordsT (tget t.ks 0) ++ [wAt, digs v, wShut] := by
  rw [wordsT_eq, hI.head]
  unfold comb
  simp [kw_get (show 0 < t.ks.length by omega)]
 have hp0 := fun W M hM hSt => put_n (cs := #[.int .u8 3, .int .i64 v, .slice pe ne ce, .slice (some ⟨b, o, none⟩) 1 c]) hNl [wOpen] W M 1 (ss) hM rfl hSt (by have := wt_pos t; simp; omega)
 have hp1 := fun W M hM hSt => put_n (cs := #[.int .u8 3, .int .i64 v, .slice pe ne ce, .slice (some ⟨b, o, none⟩) 1 c]) hNl [wRef] W M 1 (ss ++ [wOpen]) hM rfl hSt (by have := wt_pos t; simp; omega)
 have hp2 := fun W (hSt : St N w (.cells #[.int .u8 3, .int .i64 v, .slice pe ne ce, .slice (some ⟨b, o, none⟩) 1 c] 28 (0, 0)) (ss ++ [wOpen] ++ [wRef]) W) => hT (tget t.ks 0) _ qe0 _ de0 q0 _ d0 (ss ++ [wOpen] ++ [wRef]) W (by omega) ok0 ef0 hI0 (hSt.low hb hN0) hSt.1 (by simp; omega)
 have hp3 := fun W M hM hSt => put_n (cs := #[.int .u8 3, .int .i64 v, .slice pe ne ce, .slice (some ⟨b, o, none⟩) 1 c]) hNl [wAt, digs v, wShut] W M 3 (ss ++ [wOpen] ++ [wRef] ++ wordsT (tget t.ks 0)) hM rfl hSt (by have := wt_pos t; simp; omega)
 have hd3 := fun W (hSt : St N w (.cells #[.int .u8 3, .int .i64 v, .slice pe ne ce, .slice (some ⟨b, o, none⟩) 1 c] 28 (0, 0)) (ss ++ [wOpen] ++ [wRef] ++ wordsT (tget t.ks 0)) W) => Effect.digitsOf_walk v hv1.1 hv1.2 W (hnl.below (hSt.low hb hN0))
 have hc0' := fun W ss' (hSt : St N w (.cells #[.int .u8 3, .int .i64 v, .slice pe ne ce, .slice (some ⟨b, o, none⟩) 1 c] 28 (0, 0)) ss' W) => hc0 W (hSt.low hb hN0)
 have hin := inRegion_walk ⟨3, v, e⟩ pe ne ce (some ⟨b, o, none⟩) 1 c
 simp only at hin
 have hs := St.start (.cells #[.int .u8 3, .int .i64 v, .slice pe ne ce, .slice (some ⟨b, o, none⟩) 1 c] 28 (0, 0)) hW
 have ES := Lib.hid es; have HS := Lib.hid hs; have HIN := Lib.hid hin; have H0 := Lib.hid hp0; have H1 := Lib.hid hp1; have H2 := Lib.hid hp2; have H3 := Lib.hid hp3; have D3 := Lib.hid hd3; have HC0 := Lib.hid hc0'
 have hcl : c ≤ 9223372036854775807 := hcap.2
 have hcq := hcap.1
 clear es hs hin hp0 hp1 hp2 hp3 hd3 hc0' hc0 hI0 ok0 ef0 wl0 hlen hnode hcap hT hI hb hW hok hm hz hef hef2 hnl hv0 hv1 hww hk
 generalize hdg : digs v = dv at *
 clear hdg
 go_enter Tryz.func130, Tryz.ntmps130
 go_wp2_with (fail)
 refine (HIN.out _).mono ?_
 rintro en w0' ⟨rfl, hb0'⟩
 have HSA := Lib.hid (HS.out.quiet hb0')
 clear hb0'
 rw [show decide ((3 : Int) ≠ 1) = true from by decide]
 obtain ⟨⟨c0, c1, c2, c3⟩, -⟩ := cells4 HSA.out.2.2
 go_wp2_with (fail)
 refine (H0.out _ _ rfl HSA.out).mono ?_
 rintro en w1 ⟨rfl, h0⟩
 have HS1 := Lib.hid h0
 clear h0 c0 c1 c2 c3
 obtain ⟨⟨c0, c1, c2, c3⟩, -⟩ := cells4 HS1.out.2.2
 go_wp2_with (fail)
 refine (H1.out _ _ rfl HS1.out).mono ?_
 rintro en w2 ⟨rfl, h1⟩
 have HS2 := Lib.hid h1
 clear h1 c0 c1 c2 c3
 obtain ⟨⟨c0, c1, c2, c3⟩, -⟩ := cells4 HS2.out.2.2
 obtain ⟨a0, a1, a2, a3⟩ := HC0.out _ _ HS2.out
 go_wp2_with (fail)
 refine (H2.out _ HS2.out).mono ?_
 rintro en w3 ⟨rfl, hA2, hW2⟩
 have HS3 := Lib.hid (HS2.out.next hNl hA2 hW2)
 clear hA2 hW2 a0 a1 a2 a3 c0 c1 c2 c3
 obtain ⟨⟨c0, c1, c2, c3⟩, -⟩ := cells4 HS3.out.2.2
 go_wp2_with (fail)
 refine (D3.out _ HS3.out).mono ?_
 rintro en wd3 ⟨rfl, hbd3⟩
 have HD3 := Lib.hid (HS3.out.quiet hbd3)
 clear hbd3 c0 c1 c2 c3
 go_wp2_with (fail)
 refine (H3.out _ _ rfl HD3.out).mono ?_
 rintro en w4 ⟨rfl, h3⟩
 have HS4 := Lib.hid h3
 clear h3
 obtain ⟨⟨c0, c1, c2, c3⟩, -⟩ := cells4 HS4.out.2.2
 go_wp2_with (fail)
 go_end0
 rw [ES.out]
 exact st_end HS4.out

set_option maxRecDepth 10000 in
set_option maxHeartbeats 6400000 in
theorem typ_4 (w0 : World) (N m : Nat) (hN0 : w0.heap.size ≤ N) (hnl : NumLaid w0) (hT : TypOf w0 N m) (t : RT) (v : Int) (e : List At) (pe : Option Addr) (ne ce : Nat) (p : Option Addr) (l c : Nat) (ss : List ByteArray) (w : World) (hm : wt t ≤ m + 1) (hok : mayT t = true) (hef : allT (effB 1000) t = true) (hI : RtIs w0 ⟨4, v, e⟩ pe ne ce p l c t) (hb : Below w0.heap.size w0 w) (hW : WAt N ss w) (hz : ss.length + 8 * wt t ≤ 1000000) :
  Calls Tryz.prog 130 #[.pointer (some ⟨N, 0, none⟩), .agg #[.int .u8 4, .int .i64 v, .slice pe ne ce, .slice p l c]] w (WEnd N (ss ++ wordsT t) w) := by
 have hNl := hW.lt
 have hlen := hI.len
 have hnode := (may_node hok).1
 rw [hI.head] at hnode
 have hcap := hI.cap
 have hef2 := hef
 rw [allT_eq, Bool.and_eq_true, hI.head] at hef2
 have hv0 := (may_node hok).2.1
 rw [hI.head] at hv0
 have hv1 := hI.ok.r
 simp only at hv0 hv1
 obtain rfl : l = 2 := by
  simp at hnode; omega
 obtain ⟨b, o, rfl, hk⟩ := kid_at hI (by omega)
 obtain ⟨qe0, de0, q0, d0, hI0, hc0⟩ := hk 0 (by omega)
 have ok0 := may_kid hok (i := 0) (by omega)
 have ef0 := allK_get _ (j := 0) (by omega) hef2.2
 have wl0 := words_le ok0
 rw [show o + 0 * 4 = o from by omega] at hc0
 obtain ⟨qe1, de1, q1, d1, hI1, hc1⟩ := hk 1 (by omega)
 have ok1 := may_kid hok (i := 1) (by omega)
 have ef1 := allK_get _ (j := 1) (by omega) hef2.2
 have wl1 := words_le ok1
 rw [show o + 1 * 4 = o + 4 from by omega] at hc1
 have hww := wt2 (t := t) (by omega)
 have es : ss ++ wordsT t = ss ++ [wOpen] ++ wordsT (tget t.ks 0) ++ [wArrow] ++ wordsT (tget t.ks 1) ++ [wBang, textE (ofA e)] ++ [wAt, digs v, wShut] := by
  rw [wordsT_eq, hI.head]
  unfold comb
  simp [kw_get (show 0 < t.ks.length by omega), kw_get (show 1 < t.ks.length by omega)]
 have hp0 := fun W M hM hSt => put_n (cs := #[.int .u8 4, .int .i64 v, .slice pe ne ce, .slice (some ⟨b, o, none⟩) 2 c]) hNl [wOpen] W M 1 (ss) hM rfl hSt (by have := wt_pos t; simp; omega)
 have hp1 := fun W (hSt : St N w (.cells #[.int .u8 4, .int .i64 v, .slice pe ne ce, .slice (some ⟨b, o, none⟩) 2 c] 28 (0, 0)) (ss ++ [wOpen]) W) => hT (tget t.ks 0) _ qe0 _ de0 q0 _ d0 (ss ++ [wOpen]) W (by omega) ok0 ef0 hI0 (hSt.low hb hN0) hSt.1 (by simp; omega)
 have hp2 := fun W M hM hSt => put_n (cs := #[.int .u8 4, .int .i64 v, .slice pe ne ce, .slice (some ⟨b, o, none⟩) 2 c]) hNl [wArrow] W M 1 (ss ++ [wOpen] ++ wordsT (tget t.ks 0)) hM rfl hSt (by have := wt_pos t; simp; omega)
 have hp3 := fun W (hSt : St N w (.cells #[.int .u8 4, .int .i64 v, .slice pe ne ce, .slice (some ⟨b, o, none⟩) 2 c] 28 (0, 0)) (ss ++ [wOpen] ++ wordsT (tget t.ks 0) ++ [wArrow]) W) => hT (tget t.ks 1) _ qe1 _ de1 q1 _ d1 (ss ++ [wOpen] ++ wordsT (tget t.ks 0) ++ [wArrow]) W (by omega) ok1 ef1 hI1 (hSt.low hb hN0) hSt.1 (by simp; omega)
 have hp4 := fun W M hM hSt => put_n (cs := #[.int .u8 4, .int .i64 v, .slice pe ne ce, .slice (some ⟨b, o, none⟩) 2 c]) hNl [wBang, textE (ofA e)] W M 2 (ss ++ [wOpen] ++ wordsT (tget t.ks 0) ++ [wArrow] ++ wordsT (tget t.ks 1)) hM rfl hSt (by have := wt_pos t; simp; omega)
 have hd4 := fun W (hSt : St N w (.cells #[.int .u8 4, .int .i64 v, .slice pe ne ce, .slice (some ⟨b, o, none⟩) 2 c] 28 (0, 0)) (ss ++ [wOpen] ++ wordsT (tget t.ks 0) ++ [wArrow] ++ wordsT (tget t.ks 1)) W) => Effect.text_walk (c := ce) (hI.eff.below (hSt.low hb hN0)).rd (by rw [← hI.elen]; exact (eff_iff.1 hef2.1).1) (sh_eff hI.ok.e (eff_iff.1 hef2.1).2 (Nat.le_refl _)) (hnl.below (hSt.low hb hN0))
 have hp5 := fun W M hM hSt => put_n (cs := #[.int .u8 4, .int .i64 v, .slice pe ne ce, .slice (some ⟨b, o, none⟩) 2 c]) hNl [wAt, digs v, wShut] W M 3 (ss ++ [wOpen] ++ wordsT (tget t.ks 0) ++ [wArrow] ++ wordsT (tget t.ks 1) ++ [wBang, textE (ofA e)]) hM rfl hSt (by have := wt_pos t; simp; omega)
 have hd5 := fun W (hSt : St N w (.cells #[.int .u8 4, .int .i64 v, .slice pe ne ce, .slice (some ⟨b, o, none⟩) 2 c] 28 (0, 0)) (ss ++ [wOpen] ++ wordsT (tget t.ks 0) ++ [wArrow] ++ wordsT (tget t.ks 1) ++ [wBang, textE (ofA e)]) W) => Effect.digitsOf_walk v hv1.1 hv1.2 W (hnl.below (hSt.low hb hN0))
 have hc0' := fun W ss' (hSt : St N w (.cells #[.int .u8 4, .int .i64 v, .slice pe ne ce, .slice (some ⟨b, o, none⟩) 2 c] 28 (0, 0)) ss' W) => hc0 W (hSt.low hb hN0)
 have hc1' := fun W ss' (hSt : St N w (.cells #[.int .u8 4, .int .i64 v, .slice pe ne ce, .slice (some ⟨b, o, none⟩) 2 c] 28 (0, 0)) ss' W) => hc1 W (hSt.low hb hN0)
 have hin := inRegion_walk ⟨4, v, e⟩ pe ne ce (some ⟨b, o, none⟩) 2 c
 simp only at hin
 have hs := St.start (.cells #[.int .u8 4, .int .i64 v, .slice pe ne ce, .slice (some ⟨b, o, none⟩) 2 c] 28 (0, 0)) hW
 have ES := Lib.hid es; have HS := Lib.hid hs; have HIN := Lib.hid hin; have H0 := Lib.hid hp0; have H1 := Lib.hid hp1; have H2 := Lib.hid hp2; have H3 := Lib.hid hp3; have H4 := Lib.hid hp4; have D4 := Lib.hid hd4; have H5 := Lib.hid hp5; have D5 := Lib.hid hd5; have HC0 := Lib.hid hc0'; have HC1 := Lib.hid hc1'
 have hcl : c ≤ 9223372036854775807 := hcap.2
 have hcq := hcap.1
 clear es hs hin hp0 hp1 hp2 hp3 hp4 hd4 hp5 hd5 hc0' hc0 hI0 ok0 ef0 wl0 hc1' hc1 hI1 ok1 ef1 wl1 hlen hnode hcap hT hI hb hW hok hm hz hef hef2 hnl hv0 hv1 hww hk
 generalize hdg : digs v = dv at *
 generalize hte : textE (ofA e) = te at *
 clear hdg hte
 go_enter Tryz.func130, Tryz.ntmps130
 go_wp2_with (fail)
 refine (HIN.out _).mono ?_
 rintro en w0' ⟨rfl, hb0'⟩
 have HSA := Lib.hid (HS.out.quiet hb0')
 clear hb0'
 rw [show decide ((4 : Int) ≠ 1) = true from by decide]
 obtain ⟨⟨c0, c1, c2, c3⟩, -⟩ := cells4 HSA.out.2.2
 go_wp2_with (fail)
 refine (H0.out _ _ rfl HSA.out).mono ?_
 rintro en w1 ⟨rfl, h0⟩
 have HS1 := Lib.hid h0
 clear h0 c0 c1 c2 c3
 obtain ⟨⟨c0, c1, c2, c3⟩, -⟩ := cells4 HS1.out.2.2
 obtain ⟨a0, a1, a2, a3⟩ := HC0.out _ _ HS1.out
 go_wp2_with (fail)
 refine (H1.out _ HS1.out).mono ?_
 rintro en w2 ⟨rfl, hA1, hW1⟩
 have HS2 := Lib.hid (HS1.out.next hNl hA1 hW1)
 clear hA1 hW1 a0 a1 a2 a3 c0 c1 c2 c3
 obtain ⟨⟨c0, c1, c2, c3⟩, -⟩ := cells4 HS2.out.2.2
 go_wp2_with (fail)
 refine (H2.out _ _ rfl HS2.out).mono ?_
 rintro en w3 ⟨rfl, h2⟩
 have HS3 := Lib.hid h2
 clear h2 c0 c1 c2 c3
 obtain ⟨⟨c0, c1, c2, c3⟩, -⟩ := cells4 HS3.out.2.2
 obtain ⟨a0, a1, a2, a3⟩ := HC1.out _ _ HS3.out
 go_wp2_with (fail)
 refine (H3.out _ HS3.out).mono ?_
 rintro en w4 ⟨rfl, hA3, hW3⟩
 have HS4 := Lib.hid (HS3.out.next hNl hA3 hW3)
 clear hA3 hW3 a0 a1 a2 a3 c0 c1 c2 c3
 obtain ⟨⟨c0, c1, c2, c3⟩, -⟩ := cells4 HS4.out.2.2
 go_wp2_with (fail)
 refine (D4.out _ HS4.out).mono ?_
 rintro en wd4 ⟨rfl, hbd4⟩
 have HD4 := Lib.hid (HS4.out.quiet hbd4)
 clear hbd4 c0 c1 c2 c3
 go_wp2_with (fail)
 refine (H4.out _ _ rfl HD4.out).mono ?_
 rintro en w5 ⟨rfl, h4⟩
 have HS5 := Lib.hid h4
 clear h4
 obtain ⟨⟨c0, c1, c2, c3⟩, -⟩ := cells4 HS5.out.2.2
 go_wp2_with (fail)
 refine (D5.out _ HS5.out).mono ?_
 rintro en wd5 ⟨rfl, hbd5⟩
 have HD5 := Lib.hid (HS5.out.quiet hbd5)
 clear hbd5 c0 c1 c2 c3
 go_wp2_with (fail)
 refine (H5.out _ _ rfl HD5.out).mono ?_
 rintro en w6 ⟨rfl, h5⟩
 have HS6 := Lib.hid h5
 clear h5
 obtain ⟨⟨c0, c1, c2, c3⟩, -⟩ := cells4 HS6.out.2.2
 go_wp2_with (fail)
 go_end0
 rw [ES.out]
 exact st_end HS6.out

theorem typ_all (w0 : World) (N : Nat) (hN : w0.heap.size ≤ N) (hnl : NumLaid w0) : ∀ m, TypOf w0 N m := by
 intro m
 induction m with
 | zero =>
  intro t h pe ne ce p l c ss w hm
  have := wt_pos t
  omega
 | succ m ih =>
  intro t h pe ne ce p l c ss w hm hok hef hI hb hW hz
  have hk := (may_node hok).1
  rw [hI.head] at hk
  obtain ⟨k, v, e⟩ := h
  simp only at hk
  have hh : k = 1 ∨ k = 2 ∨ k = 3 ∨ k = 4 := by omega
  rcases hh with rfl | rfl | rfl | rfl
  ·exact typ_1 w0 N m hN hnl ih t v e pe ne ce p l c ss w hm hok hef hI hb hW hz
  ·exact typ_2 w0 N m hN hnl ih t v e pe ne ce p l c ss w hm hok hef hI hb hW hz
  ·exact typ_3 w0 N m hN hnl ih t v e pe ne ce p l c ss w hm hok hef hI hb hW hz
  ·exact typ_4 w0 N m hN hnl ih t v e pe ne ce p l c ss w hm hok hef hI hb hW hz
end Rt
end Go.Proofs.YtkfkpjngiffamaaGreatDoor
namespace Go.Proofs.YtkfkpjngiffamaaGreatDoor
open Go.RowKit
set_option linter.unusedVariables false
set_option linter.unusedSimpArgs false
namespace Rt
open Effect (At AtOk AtsAt Rd ofA ret_i64 ret_bool lt_of_block heap_alloc_new textE digs NumLaid own_slice)
open Types (jb jb_list)

def textS (t : RT) : ByteArray := if mayT t = true then jb (wordsT t) else ⟨#[]⟩
def errE (t : RT) : Int := if mayT t = true then 0 else 1
def TextEnd (t : RT) (w : World) (e : Ending) (w' : World) : Prop := e = .returned (.tuple #[.string (textS t), .int .i64 (errE t)]) ∧ Below w.heap.size w w'
theorem text_no {t : RT} (h : mayT t = false) : textS t = ⟨#[]⟩ ∧ errE t = 1 := by unfold textS errE; rw [h]; exact ⟨rfl, rfl⟩
theorem text_yes {t : RT} (h : mayT t = true) : textS t = jb (wordsT t) ∧ errE t = 0 := by unfold textS errE; rw [h]; exact ⟨rfl, rfl⟩
theorem wrote_low {N : Nat} {a w W : World} (h : Wrote N w W) {B : Nat} (hb : Below B a w) (hB : B ≤ N) (hw : B ≤ a.heap.size) : Below B a W :=
 ⟨h.os.trans hb.os, h.tape.trans hb.tape, h.output.trans hb.output, Nat.le_trans hb.size h.size, fun k hk => (h.low k (Nat.lt_of_lt_of_le (Nat.lt_of_lt_of_le hk hw) hb.size) (by omega)).trans (hb.block k hk)⟩
theorem eff_more {n m : Nat} (hnm : n ≤ m) {t : RT} (h : allT (effB n) t = true) : allT (effB m) t = true :=
 (all_imp (fun h l hh => eff_iff.2 ⟨Nat.le_trans (eff_iff.1 hh).1 hnm, fun x hx => Nat.le_trans ((eff_iff.1 hh).2 x hx) hnm⟩) _).1 t (Nat.le_refl _) h
theorem own_at {w : World} {base e size n c : Nat} {a : Option Addr} {xs : List Value} (h : w.ownsRow base e size (.slice a n c) n xs) (hn : 0 < n) : ∃ g, a = some ⟨g, 0, none⟩ ∧ base ≤ g := by
 rcases h.2 with ⟨_, h0⟩ | ⟨g, cap, _, hv, hg, _⟩
 ·omega
 ·injection hv with hv; exact ⟨g, hv, hg⟩
set_option maxRecDepth 10000 in
set_option maxHeartbeats 12800000 in
theorem text_walk (t : RT) (h : Hd) (pe : Option Addr) (ne ce : Nat) (p : Option Addr) (l c : Nat) (w : World) (hT : RtIs w h pe ne ce p l c t) (hw : wt t ≤ 100000) (hef : allT (effB 1000) t = true) (hsz : mayT t = true → (jb (wordsT t)).size ≤ 100000000) (hn : NumLaid w) :
  Calls Tryz.prog 112 #[.agg #[.int .u8 h.k, .int .i64 h.r, .slice pe ne ce, .slice p l c]] w (TextEnd t w) := by
 have hmay := fun O : Obj => may_walk [t] (some ⟨(w.alloc O).heap.size, 0, none⟩) 1 1 ((w.alloc O).alloc (.cells #[.int .u8 h.k, .int .i64 h.r, .slice pe ne ce, .slice p l c] 28)) rfl one_le (kids_one (hT.below (box_new O)) 28 _ rfl) (by rw [allK_one]; exact eff_more (by omega) hef)
 have hsm : ∀ O : Obj, (w.alloc O).heap.size = w.heap.size + 1 := fun O => by simp
 simp only [hsm] at hmay
 have hmk : mayK [t] = mayT t := allK_one _ t
 rw [hmk] at hmay
 obtain ⟨k, v, e⟩ := h
 have HM := Lib.hid hmay; have HT := Lib.hid hT; have HN := Lib.hid hn; have HW := Lib.hid hw; have HEF := Lib.hid hef; have HSZ := Lib.hid hsz
 clear hmay hT hn hw hef hsz hsm hmk
 go_enter Tryz.func112, Tryz.ntmps112
 go_wp2_with (fail)
 refine (HM.out _).mono ?_
 rintro en w1 ⟨rfl, hb1⟩
 have hX1 := (hb1.block w.heap.size (by simp; omega)).trans (((box_new _).block _ (by simp)).trans (heap_alloc_new w (.cells #[.int .u8 k, .int .i64 v, .slice pe ne ce, .slice p l c] 28)))
 have hB1 : Below w.heap.size w w1 := (box_new _).trans (((box_new _).trans (hb1.mono (by simp))).mono (by simp))
 have HB1 := Lib.hid hB1; have HX1 := Lib.hid hX1
 clear hb1 hB1 hX1
 cases hmt : mayT t
 ·obtain ⟨e1, e2⟩ := text_no hmt
  have HE := Lib.hid (And.intro e1 e2)
  clear hmt e1 e2
  go_wp2_with (fail)
  refine bodyPost_ret (v := .tuple #[.string ⟨#[]⟩, .int .i64 1]) (by simp [results, Tryz.results112, go_sem]) rfl ?_
  exact ⟨by rw [HE.out.1, HE.out.2], HB1.out⟩
 ·obtain ⟨e1, e2⟩ := text_yes hmt
  have hwl := words_le hmt
  have hpos := (words_pos _ t (Nat.le_refl _) hmt).1
  have hwt := HW.out
  have hcall := fun W hA hb => typ_all w1 w1.heap.size (Nat.le_refl _) (HN.out.below HB1.out) (wt t) t ⟨k, v, e⟩ pe ne ce p l c [] W (Nat.le_refl _) hmt HEF.out (HT.out.below HB1.out) hb hA (by simp; omega)
  have hA0 : WAt w1.heap.size [] (w1.alloc (.cells #[.slice none 0 0] 166)) := ⟨_, heap_alloc_new w1 _, World.ownsRow_nil _ _ _ _⟩
  have hle : (wordsT t).length ≤ 1000000 := by omega
  have hbd := HSZ.out hmt
  have HE := Lib.hid (And.intro e1 e2); have HC := Lib.hid hcall; have HA0 := Lib.hid hA0; have HLE := Lib.hid (And.intro hpos (And.intro hle hbd))
  obtain ⟨⟨c0, c1, c2, c3⟩, -⟩ := cells4 HX1.out
  have hlt := lt_of_block HX1.out
  clear hmt e1 e2 hwl hpos hwt hcall hA0 hle hbd
  go_wp2_with (fail)
  refine (HC.out _ HA0.out (box_new _)).mono ?_
  rintro en w5 ⟨rfl, hA5, hW5⟩
  rw [List.nil_append] at hA5
  obtain ⟨vv, hv5, hown⟩ := hA5
  obtain ⟨va, vc, hvv, _, hcap⟩ := own_slice hown
  subst hvv
  obtain ⟨g, rfl, hg⟩ := own_at hown (by have := HLE.out.1; omega)
  have e0 : w5.cell? ⟨w1.heap.size, 0, none⟩ = some (.slice (some ⟨g, 0, none⟩) (wordsT t).length vc) := by simp [World.cell?, hv5]
  have el := lt_of_block hv5
  have hcells : ∀ (j : Nat) x, (wordsT t)[j]? = some x → w5.cell? ⟨g, 0 + j, none⟩ = some (.string x) := by
   intro j x hx
   have := hown.cells (g := g) rfl j (.string x) (by rw [List.getElem?_map, hx]; rfl)
   rw [Addr.add_lit] at this
   exact this
  have hgl := (hown.lt g rfl).2
  have hle := HLE.out.2.1
  have hbd := HLE.out.2.2
  have hjoin := Tryz.strings_Join g 0 vc (wordsT t) ⟨#[32]⟩ w5 hcells hgl (by omega) hcap (by have e : (jb (wordsT t)).size = (Lib.join ((wordsT t).map (·.data.toList)) [32]).length := (by rw [← jb_list]; rfl); rw [e] at hbd; show (Lib.join _ [32]).length ≤ _; omega)
  have hB5 : Below w.heap.size w w5 := wrote_low hW5 (HB1.out.alloc HB1.out.size _) HB1.out.size (Nat.le_refl _)
  have HJ := Lib.hid hjoin; have HB5 := Lib.hid hB5
  clear hv5 hown hcells hgl hbd hle hjoin hW5 hcap hg hB5 c0 c1 c2 c3
  generalize (wordsT t).length = L at *
  go_wp2_with (fail)
  refine HJ.out.mono ?_
  rintro en w6 ⟨rfl, hb6⟩
  have HB6 := Lib.hid (below_then HB5.out hb6 HB5.out.size)
  clear hb6 e0 el
  go_wp2_with (fail)
  refine bodyPost_ret (v := .tuple #[.string ⟨(Lib.join (List.map (fun x => x.data.toList) (wordsT t)) [32]).toArray⟩, .int .i64 0]) (by simp [results, Tryz.results112, go_sem]) rfl ?_
  exact ⟨by rw [HE.out.1, HE.out.2]; rfl, HB6.out⟩
end Rt
end Go.Proofs.YtkfkpjngiffamaaGreatDoor
namespace Go.Proofs.YtkfkpjngiffamaaGreatDoor
open Go.RowKit
set_option linter.unusedVariables false
set_option linter.unusedSimpArgs false
namespace Aterm
open Rt (box_new box_at below_then)
open Effect (ret_bool ret_i64 lt_of_block heap_alloc_new)

structure Tch (P : Nat → Option Obj → Prop) (w w' : World) : Prop where
 os : w'.os = w.os
 tape : w'.tape = w.tape
 output : w'.output = w.output
 size : w.heap.size ≤ w'.heap.size
 block : ∀ k, k < w.heap.size → ¬ P k w.heap[k]? → w'.heap[k]? = w.heap[k]?
section
variable {P : Nat → Option Obj → Prop}
theorem Tch.refl (w : World) : Tch P w w := ⟨rfl, rfl, rfl, Nat.le_refl _, fun _ _ _ => rfl⟩
theorem Tch.trans {a b c : World} (h : Tch P a b) (k : Tch P b c) : Tch P a c :=
 ⟨k.os.trans h.os, k.tape.trans h.tape, k.output.trans h.output, Nat.le_trans h.size k.size, fun i hi hn => by
  have h1 := h.block i hi hn
  exact (k.block i (Nat.lt_of_lt_of_le hi h.size) (by rw [h1]; exact hn)).trans h1⟩
theorem Tch.of_below {w w' : World} (hb : Below w.heap.size w w') : Tch P w w' := ⟨hb.os, hb.tape, hb.output, hb.size, fun i hi _ => hb.block i hi⟩
theorem Tch.alloc {a w : World} (h : Tch P a w) (O : Obj) : Tch P a (w.alloc O) := h.trans (Tch.of_below (box_new O))
theorem Tch.drew {a w : World} (h : Tch P a w) : Tch P a w.drew := ⟨h.os, h.tape, h.output, h.size, h.block⟩
theorem Tch.below {w w' a : World} {B : Nat} (h : Tch P w w') (hP : ∀ k O, k < B → ¬ P k O) (ha : Below B a w) (hB : B ≤ a.heap.size) : Below B a w' :=
 ⟨h.os.trans ha.os, h.tape.trans ha.tape, h.output.trans ha.output, Nat.le_trans ha.size h.size, fun k hk => (h.block k (by have := ha.size; omega) (hP k _ hk)).trans (ha.block k hk)⟩
theorem Tch.range {w w' : World} (h : Tch P w w') {b o : Nat} {cs : List Value} (hr : w.rangeAt b o cs) (hn : ¬ P b w.heap[b]?) : w'.rangeAt b o cs := fun j v hv => by
 have h1 := hr j v hv
 have hlt : b < w.heap.size := World.block_lt_of_cell? w ⟨b, o + j, none⟩ h1
 rw [World.cell?_of_block (w := w) (a := ⟨b, o + j, none⟩) (h.block b hlt hn)]
 exact h1
theorem Tch.box {w w' : World} (h : Tch P w w') {N : Nat} {hd : Hd} {v : V} {l : Nat} (k : Box w N hd v l) (hn : ¬ P N w.heap[N]?) : Box w' N hd v l := by
 have hlt : N < w.heap.size := World.block_lt_of_cell? w _ k.1
 have hb := h.block N hlt hn
 unfold Box at *
 simp only [World.cell?_of_block (w := w) (w' := w') (a := ⟨N, _, none⟩) hb]
 exact k
end
structure Goes {σ : Type} (w0 : World) (P : Nat → Option Obj → Prop) (I : Nat → σ → World → Prop) : Prop where
 low : ∀ k O, k < w0.heap.size → ¬ P k O
 new : ∀ r s W, I r s W → ∀ cs fz, ¬ P W.heap.size (some (.cells cs 31 fz))
 keep : ∀ r s W W', I r s W → Below W.heap.size W W' → I r s W'
 less : ∀ r r' s W, I r s W → r' ≤ r → I r' s W
def FoEnd {σ : Type} (P : Nat → Option Obj → Prop) (I : σ → World → Prop) (r : Bool × σ) (w : World) (e : Ending) (w' : World) : Prop := e = .returned (.bool r.1) ∧ I r.2 w' ∧ Tch P w w'
def Steps {σ : Type} (c : Nat) (env : List Value) (B : σ → AT → Bool) (S : σ → AT → σ) (C : Hd → Nat → Bool) (w0 : World) (P : Nat → Option Obj → Prop) (I : Nat → σ → World → Prop) : Prop :=
 ∀ r s W t h v l, I (r + 1) s W → AtIs w0 h v l t → C h l = true → Below w0.heap.size w0 W → Calls Tryz.prog c (Value.agg #[.int .u8 h.h.k, .int .u8 h.h.op, .int .i64 h.h.pl, .int .i64 h.h.n, .string h.h.name, .string h.h.arg, .string h.h.exn, .int .i64 h.rho, .slice v.ra h.rhos.length v.rc, .slice v.ea h.e.length v.ec, .int .u8 h.ty.h.k, .int .i64 h.ty.h.r, .slice v.tea h.ty.h.e.length v.tec, .slice v.tka h.ty.ks.length v.tkc, .int .u8 h.re.h.k, .int .i64 h.re.h.r, .slice v.sea h.re.h.e.length v.sec, .slice v.ska h.re.ks.length v.skc, .slice v.ka l v.kc] :: env).toArray W (FoEnd P (I r) (B s t, S s t) W)
def RowS (w0 W : World) (p : Option Addr) (ts : List AT) : Prop := ∀ i, i < ts.length → ∃ b o v, p = some ⟨b, o, none⟩ ∧ AtIs w0 (tget ts i).h v (tget ts i).ks.length (tget ts i) ∧ W.rangeAt b (o + i * 19) (acells (tget ts i).h v (tget ts i).ks.length)
theorem rowS_kids {w0 W : World} {p : Option Addr} {ts : List AT} (h : Kids w0 p ts) (hb : Below w0.heap.size w0 W) : RowS w0 W p ts := fun i hi => by
 obtain ⟨b, o, v, h1, h2, h3⟩ := h.load i hi
 exact ⟨b, o, v, h1, h2, range_below h3 hb⟩
theorem wts_drop' (ts : List AT) (j : Nat) (hj : j < ts.length) : wts (ts.drop j) = wts (tget ts j).ks + 1 + wts (ts.drop (j + 1)) := by
 rw [wts_drop ts j hj, wt_ks]
theorem at_load_g {ops : Array Oper} {rest : List Oper} {op : Oper} {a : Act} {w : World} {Q : Exit → Act → World → Prop} (hw : Region.wanted op (yielded ops a.tmps) = true) (x : Operand) (ho : op.op = .load 31 x)
  (b o : Nat) (hx : a.eval x = .pointer (some ⟨b, o, none⟩)) {h : Hd} {v : V} {l : Nat} (hr : w.rangeAt b o (acells h v l))
  (k : wpList Tryz.prog ops Q rest (a.put op.dst (.agg #[.int .u8 h.h.k, .int .u8 h.h.op, .int .i64 h.h.pl, .int .i64 h.h.n, .string h.h.name, .string h.h.arg, .string h.h.exn, .int .i64 h.rho, .slice v.ra h.rhos.length v.rc, .slice v.ea h.e.length v.ec, .int .u8 h.ty.h.k, .int .i64 h.ty.h.r, .slice v.tea h.ty.h.e.length v.tec, .slice v.tka h.ty.ks.length v.tkc, .int .u8 h.re.h.k, .int .i64 h.re.h.r, .slice v.sea h.re.h.e.length v.sec, .slice v.ska h.re.ks.length v.skc, .slice v.ka l v.kc])) w) : wpList Tryz.prog ops Q (op :: rest) a w := by
 rw [wpList, if_pos hw]
 exact .inl (wp_load_mid 31 x ho b o hx (acells h v l) _ hr Tryz.underlying31 rfl atInfo k)
theorem at_store {ops : Array Oper} {rest : List Oper} {op : Oper} {a : Act} {w0 : World} {Q : Exit → Act → World → Prop} (hgd : op.guard = none) (x y : Operand) (ho : op.op = .store 31 x y) (c : Array Value) (hc : c.size = 19)
  (h : Hd) (v : V) (l : Nat) (hx : a.eval x = .pointer (some ⟨w0.heap.size, 0, none⟩)) (hy : a.eval y = .agg #[.int .u8 h.h.k, .int .u8 h.h.op, .int .i64 h.h.pl, .int .i64 h.h.n, .string h.h.name, .string h.h.arg, .string h.h.exn, .int .i64 h.rho, .slice v.ra h.rhos.length v.rc, .slice v.ea h.e.length v.ec, .int .u8 h.ty.h.k, .int .i64 h.ty.h.r, .slice v.tea h.ty.h.e.length v.tec, .slice v.tka h.ty.ks.length v.tkc, .int .u8 h.re.h.k, .int .i64 h.re.h.r, .slice v.sea h.re.h.e.length v.sec, .slice v.ska h.re.ks.length v.skc, .slice v.ka l v.kc])
  (k : wpList Tryz.prog ops Q rest (a.put op.dst undef) (w0.alloc (.cells #[.int .u8 h.h.k, .int .u8 h.h.op, .int .i64 h.h.pl, .int .i64 h.h.n, .string h.h.name, .string h.h.arg, .string h.h.exn, .int .i64 h.rho, .slice v.ra h.rhos.length v.rc, .slice v.ea h.e.length v.ec, .int .u8 h.ty.h.k, .int .i64 h.ty.h.r, .slice v.tea h.ty.h.e.length v.tec, .slice v.tka h.ty.ks.length v.tkc, .int .u8 h.re.h.k, .int .i64 h.re.h.r, .slice v.sea h.re.h.e.length v.sec, .slice v.ska h.re.ks.length v.skc, .slice v.ka l v.kc] 31))) : wpList Tryz.prog ops Q (op :: rest) a (w0.alloc (.cells c 31)) :=
 wpList_plain hgd fun _ hK => by
  have hst := run_storeVar_new (P := Tryz.prog) w0 31 c #[.int .u8 h.h.k, .int .u8 h.h.op, .int .i64 h.h.pl, .int .i64 h.h.n, .string h.h.name, .string h.h.arg, .string h.h.exn, .int .i64 h.rho, .slice v.ra h.rhos.length v.rc, .slice v.ea h.e.length v.ec, .int .u8 h.ty.h.k, .int .i64 h.ty.h.r, .slice v.tea h.ty.h.e.length v.tec, .slice v.tka h.ty.ks.length v.tkc, .int .u8 h.re.h.k, .int .i64 h.re.h.r, .slice v.sea h.re.h.e.length v.sec, .slice v.ska h.re.ks.length v.skc, .slice v.ka l v.kc] atInfo hc (all_oneCell_toArray (cs := acells h v l) (fun u hu => by
   simp [acells] at hu
   rcases hu with rfl | rfl | rfl | rfl | rfl | rfl | rfl | rfl | rfl | rfl | rfl | rfl | rfl | rfl | rfl | rfl | rfl | rfl | rfl <;> rfl))
  unfold Oper.wp execOp
  simp only [ho, hx, hy, Instr.storeAt, Instr.sureAddr, Sem.run_bind, Sem.run_pure, Result.andThen_ok, hst]
  exact hK _ _ k
end Aterm
end Go.Proofs.YtkfkpjngiffamaaGreatDoor
