import Derived.Test.YtkfkpjngiffamaaGreatDoorGC15
import Derived.Test.YtkfkpjngiffamaaGreatDoorGC10
import Derived.Test.YtkfkpjngiffamaaGreatDoorGC11
import Derived.Test.YtkfkpjngiffamaaGreatDoorGC12
import Derived.OwnWalk
import Derived.Laws.AppendOwn
import Derived.Laws.AppendOwnNone
import Derived.LoopTactic
import Derived.Deep.RegionHeld3
namespace Go.Proofs.YtkfkpjngiffamaaGreatDoor
open Go.RowKit
set_option linter.unusedVariables false
set_option linter.unusedSimpArgs false
namespace Aterm
open Effect (RdI nget nget_at nget_mem ret_bool ret_i64 lt_of_block heap_alloc_new ofA)
open Rt (box_new box_at below_then)

def exH (k rho : Int) : Hd := ⟨⟨k, 0, 0, 0, ⟨#[]⟩, ⟨#[]⟩, ⟨#[]⟩⟩, rho, [], [], .node ⟨0, 0, []⟩ [], .node ⟨0, 0, []⟩ []⟩
def exV (p : Option Addr) (c : Nat) : V := ⟨none, 0, none, 0, none, 0, none, 0, none, 0, none, 0, p, c⟩
def exN : AT := .node (exH 1 0) []
def exP : AT := .node (exH 3 1) [exN, exN]
def exF : AT := .node (exH 4 0) [exP]
def exT : AT := .node (exH 17 1) [exF]
theorem wt_N : wt exN = 1 := by unfold exN; rw [wt_ks]; simp only [AT.ks]; rw [wts_nil]
theorem wt_P : wt exP = 3 := by unfold exP; rw [wt_ks]; simp only [AT.ks]; rw [wts_cons, wts_cons, wts_nil, wt_N]
theorem wt_F : wt exF = 4 := by unfold exF; rw [wt_ks]; simp only [AT.ks]; rw [wts_cons, wts_nil, wt_P]
theorem wt_T : wt exT = 5 := by unfold exT; rw [wt_ks]; simp only [AT.ks]; rw [wts_cons, wts_nil, wt_F]
theorem all_ex (B : Hd → Nat → Bool) (h1 : B (exH 1 0) 0 = true) (h2 : B (exH 3 1) 2 = true) (h3 : B (exH 4 0) 1 = true) (h4 : B (exH 17 1) 1 = true) : allT B exT = true := by
 have n : allT B exN = true := by unfold exN; rw [allT_eq]; simp only [AT.h, AT.ks, List.length_nil]; rw [h1, allK_nil]; rfl
 have p : allT B exP = true := by unfold exP; rw [allT_eq]; simp only [AT.h, AT.ks, List.length_cons, List.length_nil]; rw [show B (exH 3 1) (0 + 1 + 1) = true from h2, allK_cons, allK_cons, allK_nil, n]; rfl
 have f : allT B exF = true := by unfold exF; rw [allT_eq]; simp only [AT.h, AT.ks, List.length_cons, List.length_nil]; rw [show B (exH 4 0) (0 + 1) = true from h3, allK_cons, allK_nil, p]; rfl
 unfold exT; rw [allT_eq]; simp only [AT.h, AT.ks, List.length_cons, List.length_nil]; rw [show B (exH 17 1) (0 + 1) = true from h4, allK_cons, allK_nil, f]; rfl
theorem may_ex : mayT exT = true := by
 unfold mayT
 rw [wt_T, all_ex nodeB (by decide) (by decide) (by decide) (by decide)]
 rfl
theorem small_ex : allT smallB exT = true := all_ex smallB (by decide) (by decide) (by decide) (by decide)
theorem ex_is {w : World} {k rho : Int} {p : Option Addr} {c : Nat} {ts : List AT} (hk : 0 ≤ k ∧ k ≤ 255) (hr : 0 ≤ rho ∧ rho ≤ 255) (hc : ts.length ≤ c ∧ c ≤ maxLen) (hks : Kids w p ts) : AtIs w (exH k rho) (exV p c) ts.length (.node (exH k rho) ts) :=
 ⟨rfl, rfl, ⟨⟨hk, by show (0 : Int) ≤ 0 ∧ (0 : Int) ≤ 255; omega, by show (-9223372036854775808 : Int) ≤ 0 ∧ (0 : Int) ≤ 9223372036854775807; omega, by show (-9223372036854775808 : Int) ≤ 0 ∧ (0 : Int) ≤ 9223372036854775807; omega, by show 0 ≤ maxLen; exact Nat.zero_le _, by show 0 ≤ maxLen; exact Nat.zero_le _, by show 0 ≤ maxLen; exact Nat.zero_le _⟩,
  by show -9223372036854775808 ≤ rho ∧ rho ≤ 9223372036854775807; omega, ⟨rfl, .inl rfl, fun x hx => by cases hx⟩, ⟨Nat.le_refl _, by show 0 ≤ maxLen; exact Nat.zero_le _⟩, zeroEff w, (fun x hx => by cases hx), zeroRt w, zeroRt w⟩, hc, hks⟩
theorem at_store2 {ops : Array Oper} {rest : List Oper} {op : Oper} {a : Act} {w0 : World} {Q : Exit → Act → World → Prop} (hgd : op.guard = none) (x y : Operand) (ho : op.op = .store 31 x y) (c : Array Value) (hc : c.size = 19)
  (h : Hd) (v : V) (l : Nat) (N : Nat) (hN : N = w0.heap.size) (hx : a.eval x = .pointer (some ⟨N, 0, none⟩)) (hy : a.eval y = .agg #[.int .u8 h.h.k, .int .u8 h.h.op, .int .i64 h.h.pl, .int .i64 h.h.n, .string h.h.name, .string h.h.arg, .string h.h.exn, .int .i64 h.rho, .slice v.ra h.rhos.length v.rc, .slice v.ea h.e.length v.ec, .int .u8 h.ty.h.k, .int .i64 h.ty.h.r, .slice v.tea h.ty.h.e.length v.tec, .slice v.tka h.ty.ks.length v.tkc, .int .u8 h.re.h.k, .int .i64 h.re.h.r, .slice v.sea h.re.h.e.length v.sec, .slice v.ska h.re.ks.length v.skc, .slice v.ka l v.kc])
  (k : wpList Tryz.prog ops Q rest (a.put op.dst undef) (w0.alloc (.cells #[.int .u8 h.h.k, .int .u8 h.h.op, .int .i64 h.h.pl, .int .i64 h.h.n, .string h.h.name, .string h.h.arg, .string h.h.exn, .int .i64 h.rho, .slice v.ra h.rhos.length v.rc, .slice v.ea h.e.length v.ec, .int .u8 h.ty.h.k, .int .i64 h.ty.h.r, .slice v.tea h.ty.h.e.length v.tec, .slice v.tka h.ty.ks.length v.tkc, .int .u8 h.re.h.k, .int .i64 h.re.h.r, .slice v.sea h.re.h.e.length v.sec, .slice v.ska h.re.ks.length v.skc, .slice v.ka l v.kc] 31))) : wpList Tryz.prog ops Q (op :: rest) a (w0.alloc (.cells c 31)) := by
 subst hN
 exact at_store hgd x y ho c hc h v l hx hy k
theorem of_world {P : Program} {c : Code} {Q : Exit → Act → World → Prop} {a : Act} {W : World} {F : World → Prop} (hf : F W) (h : ∀ W2, F W2 → Code.wp P c Q a W2) : Code.wp P c Q a W := h W hf
theorem kids_laid {W : World} {g : Nat} {ts : List AT} (h : ∀ i, i < ts.length → ∃ v, AtIs W (tget ts i).h v (tget ts i).ks.length (tget ts i) ∧ W.rangeAt g (i * 19) (acells (tget ts i).h v (tget ts i).ks.length)) : Kids W (some ⟨g, 0, none⟩) ts := by
 have h' : ∀ i, ∃ v, i < ts.length → AtIs W (tget ts i).h v (tget ts i).ks.length (tget ts i) ∧ W.rangeAt g (i * 19) (acells (tget ts i).h v (tget ts i).ks.length) := fun i => by
  by_cases hi : i < ts.length
  ·obtain ⟨v, hv⟩ := h i hi
   exact ⟨v, fun _ => hv⟩
  ·exact ⟨v0, fun hn => absurd hn hi⟩
 obtain ⟨F, hF⟩ := Classical.axiomOfChoice h'
 refine .atkids g 0 ts F (fun i hi => (hF i hi).1.ok) (fun i hi j x hx => ?_) (fun i hi => (hF i hi).1.cap) (fun i hi => (hF i hi).1.kids)
 have := (hF i hi).2 j x hx
 rw [Nat.zero_add]; exact this
theorem kids_new {w : World} {t : AT} {h : Hd} {v : V} {l : Nat} (hT : AtIs w h v l t) {ty : TypeId} {N : Nat} (hN : N = w.heap.size) : Kids (w.alloc (.cells #[.int .u8 h.h.k, .int .u8 h.h.op, .int .i64 h.h.pl, .int .i64 h.h.n, .string h.h.name, .string h.h.arg, .string h.h.exn, .int .i64 h.rho, .slice v.ra h.rhos.length v.rc, .slice v.ea h.e.length v.ec, .int .u8 h.ty.h.k, .int .i64 h.ty.h.r, .slice v.tea h.ty.h.e.length v.tec, .slice v.tka h.ty.ks.length v.tkc, .int .u8 h.re.h.k, .int .i64 h.re.h.r, .slice v.sea h.re.h.e.length v.sec, .slice v.ska h.re.ks.length v.skc, .slice v.ka l v.kc] ty)) (some ⟨N, 0, none⟩) [t] := by
 have hT' := hT.below (box_new (w := w) (.cells #[.int .u8 h.h.k, .int .u8 h.h.op, .int .i64 h.h.pl, .int .i64 h.h.n, .string h.h.name, .string h.h.arg, .string h.h.exn, .int .i64 h.rho, .slice v.ra h.rhos.length v.rc, .slice v.ea h.e.length v.ec, .int .u8 h.ty.h.k, .int .i64 h.ty.h.r, .slice v.tea h.ty.h.e.length v.tec, .slice v.tka h.ty.ks.length v.tkc, .int .u8 h.re.h.k, .int .i64 h.re.h.r, .slice v.sea h.re.h.e.length v.sec, .slice v.ska h.re.ks.length v.skc, .slice v.ka l v.kc] ty))
 have hr := row_new (W := w) hN (h := h) (v := v) (l := l) (ty := ty)
 have e1 := hT.head
 have e2 := hT.len
 subst e1 e2
 refine kids_laid fun i hi => ?_
 have hi0 : i = 0 := by simp at hi; omega
 subst hi0
 exact ⟨v, hT', by rw [Nat.zero_mul]; exact hr⟩
theorem kids_twice {w : World} {ty : TypeId} {N : Nat} (hN : N = w.heap.size) : Kids (w.alloc (.cells #[.int .u8 1, .int .u8 0, .int .i64 0, .int .i64 0, .string ⟨#[]⟩, .string ⟨#[]⟩, .string ⟨#[]⟩, .int .i64 0, .slice none 0 0, .slice none 0 0, .int .u8 0, .int .i64 0, .slice none 0 0, .slice none 0 0, .int .u8 0, .int .i64 0, .slice none 0 0, .slice none 0 0, .slice none 0 0, .int .u8 1, .int .u8 0, .int .i64 0, .int .i64 0, .string ⟨#[]⟩, .string ⟨#[]⟩, .string ⟨#[]⟩, .int .i64 0, .slice none 0 0, .slice none 0 0, .int .u8 0, .int .i64 0, .slice none 0 0, .slice none 0 0, .int .u8 0, .int .i64 0, .slice none 0 0, .slice none 0 0, .slice none 0 0] ty)) (some ⟨N, 0, none⟩) [exN, exN] := by
 subst hN
 refine kids_laid fun i hi => ?_
 have hg : tget [exN, exN] i = exN := by
  have : i = 0 ∨ i = 1 := by simp at hi; omega
  rcases this with rfl | rfl <;> rfl
 rw [hg]
 refine ⟨exV none 0, ex_is (ts := []) (by decide) (by decide) ⟨Nat.le_refl _, Nat.zero_le _⟩ (.nokids _), ?_⟩
 intro j x hx
 have hj : j < 19 := by
  rcases Nat.lt_or_ge j 19 with h | h
  ·exact h
  ·rw [List.getElem?_eq_none (by simpa [acells] using h)] at hx; cases hx
 rw [World.cell?_alloc_mark, ← hx]
 have : i = 0 ∨ i = 1 := by simp at hi; omega
 rcases this with rfl | rfl
 all_goals
  have hj' : j = 0 ∨ j = 1 ∨ j = 2 ∨ j = 3 ∨ j = 4 ∨ j = 5 ∨ j = 6 ∨ j = 7 ∨ j = 8 ∨ j = 9 ∨ j = 10 ∨ j = 11 ∨ j = 12 ∨ j = 13 ∨ j = 14 ∨ j = 15 ∨ j = 16 ∨ j = 17 ∨ j = 18 := by omega
  rcases hj' with rfl | rfl | rfl | rfl | rfl | rfl | rfl | rfl | rfl | rfl | rfl | rfl | rfl | rfl | rfl | rfl | rfl | rfl | rfl <;> rfl
end Aterm
end Go.Proofs.YtkfkpjngiffamaaGreatDoor
namespace Go.Proofs.YtkfkpjngiffamaaGreatDoor
open Go.RowKit
set_option linter.unusedVariables false
namespace Disp
open Effect (At AtOk AtsAt Rd RdI ofA ret_i64 ret_bool lt_of_block heap_alloc_new own_slice digs NumLaid textE)
open Aterm (AT Hd V AtIs HdIs Kids acells tget wt wts nodeB allT allK smallB Box box_of at_load exec_at range_below of_world atInfo)
open Rt (box_new below_then kw wAt wBang)
open Types (jb wInt wOpen wShut wStar wRef wArrow)

def IsStrs (O : Option Obj) : Prop := ∃ cs fz, O = some (.cells cs 9 fz)
structure Wrote (N : Nat) (w w' : World) : Prop where
 os : w'.os = w.os
 tape : w'.tape = w.tape
 output : w'.output = w.output
 size : w.heap.size ≤ w'.heap.size
 low : ∀ k, k < w.heap.size → k < N → w'.heap[k]? = w.heap[k]?
 high : ∀ k, k < w.heap.size → k ≠ N → ¬ IsStrs w.heap[k]? → w'.heap[k]? = w.heap[k]?
theorem Wrote.refl (N : Nat) (w : World) : Wrote N w w := ⟨rfl, rfl, rfl, Nat.le_refl _, fun _ _ _ => rfl, fun _ _ _ _ => rfl⟩
theorem Wrote.trans {N : Nat} {a b c : World} (h : Wrote N a b) (k : Wrote N b c) : Wrote N a c :=
 ⟨k.os.trans h.os, k.tape.trans h.tape, k.output.trans h.output, Nat.le_trans h.size k.size, fun i hi hn => (k.low i (Nat.lt_of_lt_of_le hi h.size) hn).trans (h.low i hi hn),
  fun i hi hn hs => (k.high i (Nat.lt_of_lt_of_le hi h.size) hn (by rw [h.high i hi hn hs]; exact hs)).trans (h.high i hi hn hs)⟩
theorem Wrote.of_below {N : Nat} {w w' : World} (h : Below w.heap.size w w') : Wrote N w w' := ⟨h.os, h.tape, h.output, h.size, fun k hk _ => h.block k hk, fun k hk _ _ => h.block k hk⟩
theorem Wrote.alloc {N : Nat} {w w' : World} (h : Wrote N w w') (O : Obj) : Wrote N w (w'.alloc O) := h.trans (Wrote.of_below ((Below.refl _ _).alloc (Nat.le_refl _) O))
theorem Wrote.below {N : Nat} {w w' : World} (h : Wrote N w w') {a : World} (ha : Below N a w) (hN : N ≤ a.heap.size) : Below N a w' :=
 ⟨h.os.trans ha.os, h.tape.trans ha.tape, h.output.trans ha.output, Nat.le_trans ha.size h.size, fun k hk => (h.low k (Nat.lt_of_lt_of_le (Nat.lt_of_lt_of_le hk hN) ha.size) hk).trans (ha.block k hk)⟩
def WAt (N : Nat) (ss : List ByteArray) (w : World) : Prop :=
 ∃ v, w.heap[N]? = some (.cells #[v] 54 (0, 0)) ∧ w.ownsRow (N + 1) 9 1 v ss.length (ss.map Value.string)
theorem WAt.lt {N : Nat} {ss : List ByteArray} {w : World} (h : WAt N ss w) : N < w.heap.size := by obtain ⟨v, h, _⟩ := h; exact lt_of_block h
theorem WAt.alloc {N : Nat} {ss : List ByteArray} {w : World} (h : WAt N ss w) (O : Obj) : WAt N ss (w.alloc O) := by
 have hl := h.lt
 obtain ⟨v, h1, h2⟩ := h
 exact ⟨v, by rw [Below.heap_alloc _ _ _ hl]; exact h1, h2.alloc O⟩
theorem WAt.below {N : Nat} {ss : List ByteArray} {w w' : World} (h : WAt N ss w) (hb : Below w.heap.size w w') : WAt N ss w' := by
 have hl := h.lt
 obtain ⟨v, h1, h2⟩ := h
 refine ⟨v, by rw [hb.block _ hl]; exact h1, h2.kept (row := none) ⟨hb.os, hb.tape, hb.output, hb.size, fun k hk _ => hb.block k hk⟩ ?_⟩
 rcases hv : v.ownBlock with _ | g
 ·exact .inl rfl
 ·exact .inr (by simp)
theorem ownStrs {w : World} {B n : Nat} {v : Value} {xs : List Value} (h : w.ownsRow B 9 1 v n xs) {k : Nat} (hk : ¬ IsStrs w.heap[k]?) : some k ≠ v.ownBlock := by
 intro e
 rcases h.2 with ⟨rfl, _⟩ | ⟨g, cap, cur, rfl, _, hg, _⟩
 ·simp [Value.ownBlock] at e
 ·simp [Value.ownBlock] at e
  subst e
  exact hk ⟨_, _, hg⟩
theorem cells1_strs (ss : List ByteArray) : ∀ u ∈ ss.map Value.string, u.oneCell' = true := by
 intro u hu
 obtain ⟨x, _, rfl⟩ := List.mem_map.1 hu
 rfl
theorem append_strs {P : Program} {w : World} {ops : Array Oper} {rest : List Oper} {o : Oper} {a : Act} {Q : Exit → Act → World → Prop} (hgd : o.guard = none) (s x : Operand) (t : TypeId)
  (ho : o.op = .call { callee := .builtin .append, args := #[s, x], argTypes := #[t, t] })
  (base : Nat) (e : TypeId) (i : TypeInfo) (z : Value) (bytes : Nat) (ht : P.underlying t = some (.slice e)) (hi : P.info? e = some i) (hz : i.zero = some z)
  (hsize : i.size = 1) (hby : i.bytes = bytes) (hzs : z.cells.size = 1)
  (v : Value) (n : Nat) (xs : List Value) (hs : a.eval s = v) (hown : w.ownsRow base e 1 v n xs)
  (p : Option Addr) (m c : Nat) (ss : List ByteArray) (hx : a.eval x = .slice p m c) (hl : ss.length = m)
  (hsrc : (p = none ∧ m = 0 ∧ c = 0 ∧ ss = []) ∨ ∃ ad, p = some ad ∧ ∀ j u, (ss.map Value.string)[j]? = some u → w.cell? (ad.add j) = some u)
  (h63 : n + m ≤ maxLen) (hbytes : (n + m) * bytes ≤ 140737488355328) (hbase : base ≤ w.heap.size)
  (h : ∀ v' w', w'.ownsRow base e 1 v' (n + m) (xs ++ ss.map Value.string) → w.grownBy w' v.ownBlock → wpList P ops Q rest (a.put o.dst v') w') : wpList P ops Q (o :: rest) a w := by
 rcases hsrc with ⟨rfl, rfl, rfl, rfl⟩ | ⟨ad, rfl, hc⟩
 ·refine wpList_append_own_none hgd s x t ho base e i 1 ht hi v n xs hs hown hx (h v w ?_ (World.grownBy.refl w _))
  rw [Nat.add_zero, List.map_nil, List.append_nil]
  exact hown
 ·exact wpList_append_own w hgd s x t ho base e i z 1 bytes ht hi hz hsize hby hzs (by decide) v n xs hs hown ad m c (ss.map Value.string) hx (by rw [List.length_map, hl, Nat.mul_one]) hc (cells1_strs ss) h63 hbytes hbase (fun v' w' h1 h2 _ => h v' w' h1 h2)
def Src (w : World) (p : Option Addr) (m c : Nat) (ts : List ByteArray) : Prop :=
 ts.length = m ∧ ((p = none ∧ m = 0 ∧ c = 0 ∧ ts = []) ∨ ∃ ad, p = some ad ∧ ∀ j u, (ts.map Value.string)[j]? = some u → w.cell? (ad.add j) = some u)
theorem Src.none (w : World) : Src w .none 0 0 [] := ⟨rfl, .inl ⟨rfl, rfl, rfl, rfl⟩⟩
theorem Src.new (w : World) (ts : List ByteArray) (ty : TypeId) (fz : Nat × Nat) : Src (w.alloc (.cells (ts.map Value.string).toArray ty fz)) (some ⟨w.heap.size, 0, .none⟩) ts.length ts.length ts := by
 refine ⟨rfl, .inr ⟨_, rfl, fun j u hu => ?_⟩⟩
 have e : (⟨w.heap.size, 0, Option.none⟩ : Addr).add j = ⟨w.heap.size, j, Option.none⟩ := by unfold Addr.add; split <;> simp_all
 rw [e]
 unfold World.cell?
 rw [heap_alloc_new]
 simpa using hu
theorem Src.below {w W : World} {p : Option Addr} {m c : Nat} {ts : List ByteArray} (h : Src w p m c ts) (hb : Below w.heap.size w W) : Src W p m c ts := by
 refine ⟨h.1, h.2.imp id ?_⟩
 rintro ⟨ad, hp, hc⟩
 refine ⟨ad, hp, fun j u hu => ?_⟩
 have := hc j u hu
 rw [hb.cell (World.block_lt_of_cell? w _ this)]
 exact this
theorem infoStr : (Tryz.prog.info? 9).map (fun i => (i.zero, i.size, i.bytes)) = some (some (.string ⟨#[]⟩), 1, 16) := by kernel_rfl
def WEnd (N : Nat) (ss : List ByteArray) (w : World) (e : Ending) (w' : World) : Prop := e = .returned (.tuple #[]) ∧ WAt N ss w' ∧ Wrote N w w'

set_option maxRecDepth 10000 in
set_option maxHeartbeats 1600000 in
theorem put_walk (N : Nat) (ss ts : List ByteArray) (p : Option Addr) (m c : Nat) (w : World) (hW : WAt N ss w) (hS : Src w p m c ts) (hm : ss.length + m ≤ 1000000) :
  Calls Tryz.prog 46 #[.pointer (some ⟨N, 0, none⟩), .slice p m c] w (WEnd N (ss ++ ts) w) := by
 obtain ⟨i0, hi, hz0, hz1, hz2⟩ := info_parts infoStr
 have hN := hW.lt
 obtain ⟨v, hB, hown⟩ := hW
 obtain ⟨va, vc, hv, _, _⟩ := own_slice hown
 subst hv
 have c0 : w.cell? ⟨N, 0, none⟩ = some (.slice va ss.length vc) := by simp [World.cell?, hB]
 have hfin : ∀ v' w', w'.ownsRow (N + 1) 9 1 v' (ss.length + m) (ss.map Value.string ++ ts.map Value.string) → w.grownBy w' (Value.slice va ss.length vc).ownBlock → w'.cell? ⟨N, 0, none⟩ = some (.slice va ss.length vc) ∧ w'.frozen? ⟨N, 0, none⟩ = false ∧ WEnd N (ss ++ ts) w (.returned (.tuple #[])) (w'.setCell ⟨N, 0, none⟩ v') := by
  intro v' w' h1 h2
  have hNv : some N ≠ (Value.slice va ss.length vc).ownBlock := by
   intro e
   have := (hown.lt N e.symm).1
   omega
  have hb' : w'.heap[N]? = some (.cells #[.slice va ss.length vc] 54 (0, 0)) := by rw [h2.block N hN hNv]; exact hB
  have hset : (w'.setCell ⟨N, 0, none⟩ v').heap[N]? = some (.cells #[v'] 54 (0, 0)) := by
   simp [World.setCell, Array.getElem?_modify, hb']
  have hoth : ∀ k, k ≠ N → (w'.setCell ⟨N, 0, none⟩ v').heap[k]? = w'.heap[k]? := fun k hk => Below.heap_setCell _ _ _ _ hk
  have hsz : (w'.setCell ⟨N, 0, none⟩ v').heap.size = w'.heap.size := by simp [World.setCell]
  refine ⟨by simp [World.cell?, hb'], by simp [World.frozen?, hb'], rfl, ⟨v', hset, ?_⟩, ⟨h2.os, h2.tape, h2.output, by rw [hsz]; exact h2.size, fun k hk hkN => ?_, fun k hk hkN hs => ?_⟩⟩
  ·rw [List.length_append, hS.1, List.map_append]
   refine ⟨h1.1, h1.2.imp id ?_⟩
   rintro ⟨g, cap, cur, rfl, hg, hgg, rest⟩
   exact ⟨g, cap, cur, rfl, hg, by rw [hoth g (by omega)]; exact hgg, rest⟩
  ·rw [hoth k (by omega)]
   exact h2.block k hk (fun e => by have := (hown.lt k e.symm).1; omega)
  ·rw [hoth k hkN]
   exact h2.block k hk (ownStrs hown hs)
 have HF := Lib.hid hfin; have HO := Lib.hid hown; have HS := Lib.hid hS; have HM := Lib.hid hm
 have HI := Lib.hid hi; have HZ0 := Lib.hid hz0; have HZ1 := Lib.hid hz1; have HZ2 := Lib.hid hz2; have HN := Lib.hid hN
 clear hfin hown hS hm hi hz0 hz1 hz2 hB hN
 go_enter Tryz.func46, Tryz.ntmps46
 go_wp2_with (at_builtin; refine append_strs rfl (.tmp 8) (.tmp 9) 32 rfl (N + 1) 9 i0 (.string ⟨#[]⟩) 16 Tryz.underlying32 HI.out HZ0.out HZ1.out HZ2.out rfl (.slice va ss.length vc) _ _ rfl HO.out p m c ts rfl HS.out.1 HS.out.2 (by have := HM.out; unfold maxLen; omega) (by have := HM.out; omega) HN.out ?_; intro v3 w3 hown3 hgrow3; obtain ⟨a3, c3, rfl, _, _⟩ := own_slice hown3; obtain ⟨f0, f1, f2⟩ := HF.out _ w3 hown3 hgrow3; have HW := Lib.hid f2; clear hown3 hgrow3 f2)
 go_end0
 exact HW.out

structure Bx (N1 : Nat) (h : Hd) (v : V) (l : Nat) (O : Obj) : Prop where
 box : ∀ W : World, W.heap[N1]? = some O → Box W N1 h v l
 ns : ¬ IsStrs (some O)
theorem Bx.rng {N1 : Nat} {h : Hd} {v : V} {l : Nat} {O : Obj} (k : Bx N1 h v l O) {W : World} (hW : W.heap[N1]? = some O) : W.rangeAt N1 0 (acells h v l) := (k.box W hW).range
theorem bx_of {N1 : Nat} {h : Hd} {v : V} {l : Nat} : Bx N1 h v l (.cells #[.int .u8 h.h.k, .int .u8 h.h.op, .int .i64 h.h.pl, .int .i64 h.h.n, .string h.h.name, .string h.h.arg, .string h.h.exn, .int .i64 h.rho, .slice v.ra h.rhos.length v.rc, .slice v.ea h.e.length v.ec, .int .u8 h.ty.h.k, .int .i64 h.ty.h.r, .slice v.tea h.ty.h.e.length v.tec, .slice v.tka h.ty.ks.length v.tkc, .int .u8 h.re.h.k, .int .i64 h.re.h.r, .slice v.sea h.re.h.e.length v.sec, .slice v.ska h.re.ks.length v.skc, .slice v.ka l v.kc] 31 (0, 0)) := by
 refine ⟨fun W hW => ?_, ?_⟩
 ·have e : ∀ j, W.cell? ⟨N1, j, none⟩ = (#[.int .u8 h.h.k, .int .u8 h.h.op, .int .i64 h.h.pl, .int .i64 h.h.n, .string h.h.name, .string h.h.arg, .string h.h.exn, .int .i64 h.rho, .slice v.ra h.rhos.length v.rc, .slice v.ea h.e.length v.ec, .int .u8 h.ty.h.k, .int .i64 h.ty.h.r, .slice v.tea h.ty.h.e.length v.tec, .slice v.tka h.ty.ks.length v.tkc, .int .u8 h.re.h.k, .int .i64 h.re.h.r, .slice v.sea h.re.h.e.length v.sec, .slice v.ska h.re.ks.length v.skc, .slice v.ka l v.kc])[j]? := fun j => by simp only [World.cell?, hW]; rfl
  exact ⟨e 0, e 1, e 2, e 3, e 4, e 5, e 6, e 7, e 8, e 9, e 10, e 11, e 12, e 13, e 14, e 15, e 16, e 17, e 18⟩
 ·rintro ⟨cs', fz', h⟩
  simp at h
def St (N : Nat) (w : World) (N1 : Nat) (O : Obj) (ss : List ByteArray) (W : World) : Prop := WAt N ss W ∧ Wrote N w W ∧ W.heap[N1]? = some O
theorem St.alloc {N : Nat} {w W : World} {N1 : Nat} {O : Obj} {ss : List ByteArray} (h : St N w N1 O ss W) (O' : Obj) : St N w N1 O ss (W.alloc O') := ⟨h.1.alloc O', h.2.1.alloc O', (Below.heap_alloc _ _ _ (lt_of_block h.2.2)).trans h.2.2⟩
theorem St.next {N : Nat} {w W W' : World} {N1 : Nat} {O : Obj} {hh : Hd} {v : V} {l : Nat} {ss ss' : List ByteArray} (h : St N w N1 O ss W) (hx : Bx N1 hh v l O) (hN : N < N1) (hA : WAt N ss' W') (hW : Wrote N W W') : St N w N1 O ss' W' :=
 ⟨hA, h.2.1.trans hW, (hW.high _ (lt_of_block h.2.2) (by omega) (by rw [h.2.2]; exact hx.ns)).trans h.2.2⟩
theorem St.quiet {N : Nat} {w W W' : World} {N1 : Nat} {O : Obj} {ss : List ByteArray} (h : St N w N1 O ss W) (hb : Below W.heap.size W W') : St N w N1 O ss W' :=
 ⟨h.1.below hb, h.2.1.trans (Wrote.of_below hb), (hb.block _ (lt_of_block h.2.2)).trans h.2.2⟩
theorem St.low {N : Nat} {w0 w W : World} {N1 : Nat} {O : Obj} {ss : List ByteArray} (h : St N w N1 O ss W) (hb : Below w0.heap.size w0 w) (hN : w0.heap.size ≤ N) : Below w0.heap.size w0 W :=
 ⟨h.2.1.os.trans hb.os, h.2.1.tape.trans hb.tape, h.2.1.output.trans hb.output, Nat.le_trans hb.size h.2.1.size, fun k hk => (h.2.1.low k (Nat.lt_of_lt_of_le hk hb.size) (by omega)).trans (hb.block k hk)⟩
theorem St.drew {N : Nat} {w W : World} {N1 : Nat} {O : Obj} {ss : List ByteArray} (h : St N w N1 O ss W) : St N w N1 O ss W.drew := ⟨h.1, ⟨h.2.1.os, h.2.1.tape, h.2.1.output, h.2.1.size, h.2.1.low, h.2.1.high⟩, h.2.2⟩
theorem St.end_ {N : Nat} {w W : World} {N1 : Nat} {O : Obj} {ss : List ByteArray} (h : St N w N1 O ss W) : WEnd N ss w (.returned (.tuple #[])) W := ⟨rfl, h.1, h.2.1⟩
theorem WEnd.cast {N : Nat} {ss ss' : List ByteArray} {w W : World} {e : Ending} (h : WEnd N ss w e W) (he : ss = ss') : WEnd N ss' w e W := by rw [← he]; exact h
theorem st_start {N : Nat} {w : World} {ss : List ByteArray} (h : Hd) (v : V) (l : Nat) (hW : WAt N ss w) : ∃ O, Bx w.heap.size h v l O ∧ St N w w.heap.size O ss (w.alloc (.cells #[.int .u8 h.h.k, .int .u8 h.h.op, .int .i64 h.h.pl, .int .i64 h.h.n, .string h.h.name, .string h.h.arg, .string h.h.exn, .int .i64 h.rho, .slice v.ra h.rhos.length v.rc, .slice v.ea h.e.length v.ec, .int .u8 h.ty.h.k, .int .i64 h.ty.h.r, .slice v.tea h.ty.h.e.length v.tec, .slice v.tka h.ty.ks.length v.tkc, .int .u8 h.re.h.k, .int .i64 h.re.h.r, .slice v.sea h.re.h.e.length v.sec, .slice v.ska h.re.ks.length v.skc, .slice v.ka l v.kc] 31)) :=
 ⟨_, bx_of, hW.alloc _, (Wrote.refl N w).alloc _, heap_alloc_new w _⟩
theorem put_n {N : Nat} {w : World} {N1 : Nat} {O : Obj} {hh : Hd} {v : V} {l : Nat} (hx : Bx N1 hh v l O) (hN : N < N1) (ts : List ByteArray) (W : World) (M m : Nat) (ss : List ByteArray) (hM : M = W.heap.size) (hm : ts.length = m) (h : St N w N1 O ss W) (hz : ss.length + m ≤ 1000000) :
  Calls Tryz.prog 46 #[.pointer (some ⟨N, 0, none⟩), .slice (some ⟨M, 0, none⟩) m m] (W.alloc (.cells (ts.map Value.string).toArray 9)) fun e W' => e = .returned (.tuple #[]) ∧ St N w N1 O (ss ++ ts) W' := by
 subst hM hm
 refine (put_walk N ss ts (some ⟨W.heap.size, 0, none⟩) ts.length ts.length (W.alloc (.cells (ts.map Value.string).toArray 9)) (h.1.alloc _) (Src.new W ts _ _) hz).mono ?_
 rintro e W' ⟨rfl, hA, hW⟩
 exact ⟨rfl, (h.alloc _).next hx hN hA hW⟩
def TermOf (w0 : World) (N m : Nat) : Prop := ∀ (t : AT) (h : Hd) (v : V) (l : Nat) (ss : List ByteArray) (w : World), wt t ≤ m → allT nodeB t = true → allT smallB t = true → AtIs w0 h v l t → Below w0.heap.size w0 w → WAt N ss w → ss.length + 80 * wt t ≤ 1000000 →
 Calls Tryz.prog 27 #[.pointer (some ⟨N, 0, none⟩), .agg #[.int .u8 h.h.k, .int .u8 h.h.op, .int .i64 h.h.pl, .int .i64 h.h.n, .string h.h.name, .string h.h.arg, .string h.h.exn, .int .i64 h.rho, .slice v.ra h.rhos.length v.rc, .slice v.ea h.e.length v.ec, .int .u8 h.ty.h.k, .int .i64 h.ty.h.r, .slice v.tea h.ty.h.e.length v.tec, .slice v.tka h.ty.ks.length v.tkc, .int .u8 h.re.h.k, .int .i64 h.re.h.r, .slice v.sea h.re.h.e.length v.sec, .slice v.ska h.re.ks.length v.skc, .slice v.ka l v.kc]] w (WEnd N (ss ++ partsT t) w)
theorem kid_at {w0 : World} {h : Hd} {v : V} {l : Nat} {t : AT} (hI : AtIs w0 h v l t) (hl : 0 < l) : ∃ b o, v.ka = some ⟨b, o, none⟩ ∧ ∀ i, i < l → ∃ kv, AtIs w0 (tget t.ks i).h kv (tget t.ks i).ks.length (tget t.ks i) ∧ ∀ W, Below w0.heap.size w0 W → W.rangeAt b (o + i * 19) (acells (tget t.ks i).h kv (tget t.ks i).ks.length) := by
 have hlen := hI.len
 obtain ⟨b, o, kv, hp, -⟩ := hI.kids.load 0 (by omega)
 refine ⟨b, o, hp, fun i hi => ?_⟩
 obtain ⟨b', o', kv', hp', hT, hr⟩ := hI.kids.load i (by omega)
 rw [hp] at hp'
 injection hp' with hp'
 injection hp' with e1 e2
 subst e1 e2
 exact ⟨kv', hT, fun W hb => range_below hr hb⟩
@[reducible] def rcells (t : Rt.RT) (pe : Option Addr) (ce : Nat) (p : Option Addr) (c : Nat) : List Value := [.int .u8 t.h.k, .int .i64 t.h.r, .slice pe t.h.e.length ce, .slice p t.ks.length c]
theorem rtInfo : (Tryz.prog.info? 28).map (·.size) = some 4 := by kernel_rfl
theorem rt_load {ops : Array Oper} {rest : List Oper} {op : Oper} {a : Act} {w : World} {Q : Exit → Act → World → Prop} (hgd : op.guard = none) (x : Operand) (ho : op.op = .load 28 x)
  (b o : Nat) (hx : a.eval x = .pointer (some ⟨b, o, none⟩)) {t : Rt.RT} {pe : Option Addr} {ce : Nat} {p : Option Addr} {c : Nat} (hr : w.rangeAt b o (rcells t pe ce p c))
  (k : wpList Tryz.prog ops Q rest (a.put op.dst (.agg #[.int .u8 t.h.k, .int .i64 t.h.r, .slice pe t.h.e.length ce, .slice p t.ks.length c])) w) : wpList Tryz.prog ops Q (op :: rest) a w :=
 wpList_load_mid hgd 28 x ho b o hx (rcells t pe ce p c) _ hr Tryz.underlying28 rfl rtInfo k
theorem exec_rt {op : Oper} {a : Act} {w : World} (x : Operand) (ho : op.op = .load 28 x) (b o : Nat) (hx : a.eval x = .pointer (some ⟨b, o, none⟩)) {t : Rt.RT} {pe : Option Addr} {ce : Nat} {p : Option Addr} {c : Nat} (hr : w.rangeAt b o (rcells t pe ce p c)) : (execOp a.eval op).run Tryz.prog w = .ok (.value (.agg #[.int .u8 t.h.k, .int .i64 t.h.r, .slice pe t.h.e.length ce, .slice p t.ks.length c])) w := by
 unfold execOp
 simp only [ho, hx, Instr.loadAt, Instr.sureAddr, Sem.run_bind, Sem.run_pure, Result.andThen_ok, run_loadVar_mid w b o 28 (rcells t pe ce p c) _ hr Tryz.underlying28 rfl rtInfo]
theorem Bx.ty {N1 : Nat} {h : Hd} {v : V} {l : Nat} {O : Obj} (k : Bx N1 h v l O) {W : World} (hW : W.heap[N1]? = some O) : W.rangeAt N1 10 (rcells h.ty v.tea v.tec v.tka v.tkc) := by
 obtain ⟨b0, b1, b2, b3, b4, b5, b6, b7, b8, b9, b10, b11, b12, b13, b14, b15, b16, b17, b18⟩ := k.box W hW
 intro j x hx
 match j, hx with
 | 0, hx => cases hx; exact b10
 | 1, hx => cases hx; exact b11
 | 2, hx => cases hx; exact b12
 | 3, hx => cases hx; exact b13
 | j + 4, hx => simp at hx
theorem Bx.re {N1 : Nat} {h : Hd} {v : V} {l : Nat} {O : Obj} (k : Bx N1 h v l O) {W : World} (hW : W.heap[N1]? = some O) : W.rangeAt N1 14 (rcells h.re v.sea v.sec v.ska v.skc) := by
 obtain ⟨b0, b1, b2, b3, b4, b5, b6, b7, b8, b9, b10, b11, b12, b13, b14, b15, b16, b17, b18⟩ := k.box W hW
 intro j x hx
 match j, hx with
 | 0, hx => cases hx; exact b14
 | 1, hx => cases hx; exact b15
 | 2, hx => cases hx; exact b16
 | 3, hx => cases hx; exact b17
 | j + 4, hx => simp at hx

set_option maxHeartbeats 1600000 in
theorem region_walk (r : Int) (h0 : -9223372036854775808 ≤ r) (h1 : r ≤ 9223372036854775807) (w : World) (hl : NumLaid w) :
  Calls Tryz.prog 88 #[.int .i64 r] w fun e w' => e = .returned (.string (digs r)) ∧ Below w.heap.size w w' := by
 have hd := Effect.digitsOf_walk r h0 h1 w hl
 have HD := Lib.hid hd
 clear hd h0 h1 hl
 go_enter Tryz.func88, Tryz.ntmps88
 go_wp2_with (fail)
 refine HD.out.mono ?_
 rintro e w1 ⟨rfl, hb1⟩
 have HB1 := Lib.hid hb1
 clear hb1
 go_wp2_with (fail)
 go_ret
 exact ⟨rfl, HB1.out⟩
set_option maxHeartbeats 1600000 in
theorem typ_walk (t : Rt.RT) (pe : Option Addr) (ce : Nat) (p : Option Addr) (c : Nat) (w : World) (hT : Rt.RtIs w t.h pe t.h.e.length ce p t.ks.length c t) (hm : Rt.mayT t = true) (hw : Rt.wt t ≤ 100) (hef : Rt.allT (Rt.effB 100) t = true) (hn : NumLaid w) :
  Calls Tryz.prog 89 #[.agg #[.int .u8 t.h.k, .int .i64 t.h.r, .slice pe t.h.e.length ce, .slice p t.ks.length c]] w fun e w' => e = .returned (.string (tyT t)) ∧ Below w.heap.size w w' := by
 have hsz := Rt.text_size hT hm (n := 100) (by omega) hef
 have hx := fun O => Rt.text_walk t t.h pe t.h.e.length ce p t.ks.length c (w.alloc O) (hT.below (box_new O)) (by omega) (Rt.eff_more (by omega) hef) (fun _ => by
  have h2 : (1007 * 100 + 21) * (8 * Rt.wt t) ≤ (1007 * 100 + 21) * (8 * 100) := Nat.mul_le_mul_left _ (by omega)
  omega) (hn.below (box_new O))
 have hy := Rt.text_yes hm
 have HX := Lib.hid hx; have HY := Lib.hid hy; have HB := Lib.hid (fun O => box_new (w := w) O)
 clear hx hy hsz hT hm hw hef hn
 go_enter Tryz.func89, Tryz.ntmps89
 go_wp2_with (fail)
 refine (HX.out _).mono ?_
 rintro e w1 ⟨rfl, hb1⟩
 have HB1 := Lib.hid (below_then (HB.out _) hb1 (HB.out _).size)
 clear hb1
 go_wp2_with (fail)
 go_ret
 exact ⟨(by rw [HY.out.1]; rfl), HB1.out⟩
set_option maxRecDepth 10000 in
set_option maxHeartbeats 1600000 in
theorem at_walk (N : Nat) (ss : List ByteArray) (r : Int) (h0 : -9223372036854775808 ≤ r) (h1 : r ≤ 9223372036854775807) (w0 w : World) (hN0 : w0.heap.size ≤ N) (hb : Below w0.heap.size w0 w) (hnl : NumLaid w0) (hW : WAt N ss w) (hz : ss.length + 2 ≤ 1000000) :
  Calls Tryz.prog 68 #[.pointer (some ⟨N, 0, none⟩), .int .i64 r] w (WEnd N (ss ++ atW r) w) := by
 have hr := region_walk r h0 h1 w (hnl.below hb)
 have hp := fun W (hA : WAt N ss W) => put_walk N ss [wAt, digs r] (some ⟨W.heap.size, 0, none⟩) 2 2 (W.alloc (.cells #[.string ⟨#[64]⟩, .string (digs r)] 9)) (hA.alloc _) (Src.new W [wAt, digs r] _ _) hz
 have HR := Lib.hid hr; have HP := Lib.hid hp; have HA := Lib.hid hW
 clear hr hp hW hnl hb hN0 h0 h1 hz
 unfold atW
 go_enter Tryz.func68, Tryz.ntmps68
 go_wp2_with (fail)
 refine HR.out.mono ?_
 rintro e w1 ⟨rfl, hb1⟩
 have HA1 := Lib.hid (HA.out.below hb1); have HB1 := Lib.hid hb1
 clear hb1
 go_wp2_with (fail)
 refine (HP.out w1 HA1.out).mono ?_
 rintro e w2 ⟨rfl, hA2, hW2⟩
 have HE := Lib.hid (show WEnd N (ss ++ [wAt, digs r]) w (.returned (.tuple #[])) w2 from ⟨rfl, hA2, ((Wrote.of_below HB1.out).alloc _).trans hW2⟩)
 clear hA2 hW2
 go_wp2_with (fail)
 go_end0
 exact HE.out
end Disp
end Go.Proofs.YtkfkpjngiffamaaGreatDoor
namespace Go.Proofs.YtkfkpjngiffamaaGreatDoor
open Go.RowKit
set_option linter.unusedVariables false
set_option linter.unusedSimpArgs false
namespace Disp
open Effect (At AtOk AtsAt Rd RdI ofA ret_i64 ret_bool lt_of_block heap_alloc_new own_slice digs NumLaid textE)
open Aterm (AT Hd V AtIs HdIs Kids acells tget wt wts nodeB allT allK smallB Box box_of at_load exec_at range_below of_world atInfo)
open Rt (box_new below_then kw wAt wBang)
open Types (jb wInt wOpen wShut wStar wRef wArrow)

set_option maxRecDepth 10000 in
set_option maxHeartbeats 3200000 in
theorem kid_walk (w0 : World) (N m : Nat) (hN0 : w0.heap.size ≤ N) (hT : TermOf w0 N m) (t : AT) (h : Hd) (v : V) (l : Nat) (ts : List ByteArray) (p : Option Addr) (n c : Nat) (ss : List ByteArray) (w : World) (hm : wt t ≤ m) (hok : allT nodeB t = true) (hsm : allT smallB t = true) (hI : AtIs w0 h v l t) (hb : Below w0.heap.size w0 w) (hW : WAt N ss w) (hS : Src w p n c ts) (hz : ss.length + n + 80 * wt t ≤ 1000000) :
  Calls Tryz.prog 69 #[.pointer (some ⟨N, 0, none⟩), .agg #[.int .u8 h.h.k, .int .u8 h.h.op, .int .i64 h.h.pl, .int .i64 h.h.n, .string h.h.name, .string h.h.arg, .string h.h.exn, .int .i64 h.rho, .slice v.ra h.rhos.length v.rc, .slice v.ea h.e.length v.ec, .int .u8 h.ty.h.k, .int .i64 h.ty.h.r, .slice v.tea h.ty.h.e.length v.tec, .slice v.tka h.ty.ks.length v.tkc, .int .u8 h.re.h.k, .int .i64 h.re.h.r, .slice v.sea h.re.h.e.length v.sec, .slice v.ska h.re.ks.length v.skc, .slice v.ka l v.kc], .slice p n c] w (WEnd N (ss ++ (ts ++ partsT t)) w) := by
 have hNl := hW.lt
 obtain ⟨O, hx, hst⟩ := st_start h v l hW
 have hn : ts.length = n := hS.1
 have hp := fun W (hSt : St N w w.heap.size O ss W) (hBW : Below w.heap.size w W) => put_walk N ss ts p n c W hSt.1 (hS.below hBW) (by omega)
 have ht := fun W (hSt : St N w w.heap.size O (ss ++ ts) W) => hT t h v l (ss ++ ts) W hm hok hsm hI (hSt.low hb hN0) hSt.1 (by rw [List.length_append]; omega)
 have hbn := box_new (w := w) (.cells #[.int .u8 h.h.k, .int .u8 h.h.op, .int .i64 h.h.pl, .int .i64 h.h.n, .string h.h.name, .string h.h.arg, .string h.h.exn, .int .i64 h.rho, .slice v.ra h.rhos.length v.rc, .slice v.ea h.e.length v.ec, .int .u8 h.ty.h.k, .int .i64 h.ty.h.r, .slice v.tea h.ty.h.e.length v.tec, .slice v.tka h.ty.ks.length v.tkc, .int .u8 h.re.h.k, .int .i64 h.re.h.r, .slice v.sea h.re.h.e.length v.sec, .slice v.ska h.re.ks.length v.skc, .slice v.ka l v.kc] 31)
 have HP := Lib.hid hp; have HT := Lib.hid ht; have HX := Lib.hid hx; have HN := Lib.hid hNl
 clear hp ht hx hNl hW hS hz hm hok hsm hI hb hN0 hT hn
 go_enter Tryz.func69, Tryz.ntmps69
 go_upto_region 1 with (fail)
 refine of_world (F := fun V => St N w w.heap.size O ss V ∧ Below w.heap.size w V) ⟨hst, hbn⟩ ?_
 rintro W0 ⟨hst0, hb0⟩
 have HS0 := Lib.hid hst0; have HB0 := Lib.hid hb0
 clear hst hbn hst0 hb0
 go_wp2_with (fail)
 refine (HP.out W0 HS0.out HB0.out).mono ?_
 rintro e w1 ⟨rfl, hA, hW⟩
 have HS1 := Lib.hid (HS0.out.next HX.out HN.out hA hW)
 clear hA hW
 have HR1 := Lib.hid (HX.out.rng HS1.out.2.2)
 go_wp2_with (refine at_load rfl _ rfl w.heap.size 0 rfl HR1.out ?_)
 refine (HT.out w1 HS1.out).mono ?_
 rintro e w2 ⟨rfl, hA, hW⟩
 have HE := Lib.hid (HS1.out.next HX.out HN.out hA hW).end_
 clear hA hW
 go_wp2_with (fail)
 go_end0
 exact HE.out.cast (List.append_assoc _ _ _)
theorem kid_n (w0 : World) (N m : Nat) (hN0 : w0.heap.size ≤ N) (hT : TermOf w0 N m) {w : World} (hb : Below w0.heap.size w0 w) {N1 : Nat} {O : Obj} {hh : Hd} {v : V} {l : Nat} (hx : Bx N1 hh v l O) (hN : N < N1) (t : AT) (kv : V) (hm : wt t ≤ m) (hok : allT nodeB t = true) (hsm : allT smallB t = true) (hI : AtIs w0 t.h kv t.ks.length t)
  (ts : List ByteArray) (n : Nat) (ss : List ByteArray) (hn : ts.length = n) (hz : ss.length + n + 80 * wt t ≤ 1000000) (W : World) (M : Nat) (hM : M = W.heap.size) (h : St N w N1 O ss W) :
  Calls Tryz.prog 69 #[.pointer (some ⟨N, 0, none⟩), .agg #[.int .u8 t.h.h.k, .int .u8 t.h.h.op, .int .i64 t.h.h.pl, .int .i64 t.h.h.n, .string t.h.h.name, .string t.h.h.arg, .string t.h.h.exn, .int .i64 t.h.rho, .slice kv.ra t.h.rhos.length kv.rc, .slice kv.ea t.h.e.length kv.ec, .int .u8 t.h.ty.h.k, .int .i64 t.h.ty.h.r, .slice kv.tea t.h.ty.h.e.length kv.tec, .slice kv.tka t.h.ty.ks.length kv.tkc, .int .u8 t.h.re.h.k, .int .i64 t.h.re.h.r, .slice kv.sea t.h.re.h.e.length kv.sec, .slice kv.ska t.h.re.ks.length kv.skc, .slice kv.ka t.ks.length kv.kc], .slice (some ⟨M, 0, none⟩) n n] (W.alloc (.cells (ts.map Value.string).toArray 9)) fun e W' => e = .returned (.tuple #[]) ∧ St N w N1 O (ss ++ (ts ++ partsT t)) W' := by
 subst hM hn
 refine (kid_walk w0 N m hN0 hT t t.h kv t.ks.length ts _ _ _ ss _ hm hok hsm hI ((h.alloc _).low hb hN0) (h.1.alloc _) (Src.new W ts _ _) hz).mono ?_
 rintro e W' ⟨rfl, hA, hW⟩
 exact ⟨rfl, (h.alloc _).next hx hN hA hW⟩
theorem term_n (w0 : World) (N m : Nat) (hN0 : w0.heap.size ≤ N) (hT : TermOf w0 N m) {w : World} (hb : Below w0.heap.size w0 w) {N1 : Nat} {O : Obj} {hh : Hd} {v : V} {l : Nat} (hx : Bx N1 hh v l O) (hN : N < N1) (t : AT) (kv : V) (hm : wt t ≤ m) (hok : allT nodeB t = true) (hsm : allT smallB t = true) (hI : AtIs w0 t.h kv t.ks.length t)
  (ss : List ByteArray) (hz : ss.length + 80 * wt t ≤ 1000000) (W : World) (h : St N w N1 O ss W) :
  Calls Tryz.prog 27 #[.pointer (some ⟨N, 0, none⟩), .agg #[.int .u8 t.h.h.k, .int .u8 t.h.h.op, .int .i64 t.h.h.pl, .int .i64 t.h.h.n, .string t.h.h.name, .string t.h.h.arg, .string t.h.h.exn, .int .i64 t.h.rho, .slice kv.ra t.h.rhos.length kv.rc, .slice kv.ea t.h.e.length kv.ec, .int .u8 t.h.ty.h.k, .int .i64 t.h.ty.h.r, .slice kv.tea t.h.ty.h.e.length kv.tec, .slice kv.tka t.h.ty.ks.length kv.tkc, .int .u8 t.h.re.h.k, .int .i64 t.h.re.h.r, .slice kv.sea t.h.re.h.e.length kv.sec, .slice kv.ska t.h.re.ks.length kv.skc, .slice kv.ka t.ks.length kv.kc]] W fun e W' => e = .returned (.tuple #[]) ∧ St N w N1 O (ss ++ partsT t) W' := by
 refine (hT t t.h kv t.ks.length ss W hm hok hsm hI (h.low hb hN0) h.1 hz).mono ?_
 rintro e W' ⟨rfl, hA, hW⟩
 exact ⟨rfl, h.next hx hN hA hW⟩
theorem at_n (w0 : World) (N : Nat) (hN0 : w0.heap.size ≤ N) (hnl : NumLaid w0) {w : World} (hb : Below w0.heap.size w0 w) {N1 : Nat} {O : Obj} {hh : Hd} {v : V} {l : Nat} (hx : Bx N1 hh v l O) (hN : N < N1) (r : Int) (hr : -9223372036854775808 ≤ r ∧ r ≤ 9223372036854775807) (ss : List ByteArray) (hz : ss.length + 2 ≤ 1000000) (W : World) (h : St N w N1 O ss W) :
  Calls Tryz.prog 68 #[.pointer (some ⟨N, 0, none⟩), .int .i64 r] W fun e W' => e = .returned (.tuple #[]) ∧ St N w N1 O (ss ++ atW r) W' := by
 refine (at_walk N ss r hr.1 hr.2 w0 W hN0 (h.low hb hN0) hnl h.1 hz).mono ?_
 rintro e W' ⟨rfl, hA, hW⟩
 exact ⟨rfl, h.next hx hN hA hW⟩
set_option maxRecDepth 10000 in
set_option maxHeartbeats 3200000 in
theorem two_walk (w0 : World) (N m : Nat) (hN0 : w0.heap.size ≤ N) (hT : TermOf w0 N m) (t : AT) (h : Hd) (v : V) (sg : ByteArray) (ss : List ByteArray) (w : World) (hm : wt t ≤ m + 1) (hok : allT nodeB t = true) (hsm : allT smallB t = true) (hI : AtIs w0 h v 2 t) (hb : Below w0.heap.size w0 w) (hW : WAt N ss w) (hz : ss.length + 80 * wt t ≤ 1000020) :
  Calls Tryz.prog 67 #[.pointer (some ⟨N, 0, none⟩), .agg #[.int .u8 h.h.k, .int .u8 h.h.op, .int .i64 h.h.pl, .int .i64 h.h.n, .string h.h.name, .string h.h.arg, .string h.h.exn, .int .i64 h.rho, .slice v.ra h.rhos.length v.rc, .slice v.ea h.e.length v.ec, .int .u8 h.ty.h.k, .int .i64 h.ty.h.r, .slice v.tea h.ty.h.e.length v.tec, .slice v.tka h.ty.ks.length v.tkc, .int .u8 h.re.h.k, .int .i64 h.re.h.r, .slice v.sea h.re.h.e.length v.sec, .slice v.ska h.re.ks.length v.skc, .slice v.ka 2 v.kc], .string sg] w (WEnd N (ss ++ (partsT (tget t.ks 0) ++ ([sg] ++ partsT (tget t.ks 1)))) w) := by
 have hNl := hW.lt
 have hlen := hI.len
 have hww := wt2 hlen
 obtain ⟨b, o, hka, hkd⟩ := kid_at hI (by omega)
 obtain ⟨kv0, hI0, hr0⟩ := hkd 0 (by omega)
 obtain ⟨kv1, hI1, hr1⟩ := hkd 1 (by omega)
 have ok0 := kid_all hok (i := 0) (by omega)
 have ok1 := kid_all hok (i := 1) (by omega)
 have sm0 := kid_all hsm (i := 0) (by omega)
 have sm1 := kid_all hsm (i := 1) (by omega)
 have wl0 := parts_le ok0 sm0
 rw [show o + 0 * 19 = o from by omega] at hr0
 rw [show o + 1 * 19 = o + 19 from by omega] at hr1
 have hcap := hI.cap
 obtain ⟨O, hx, hst⟩ := st_start h v 2 hW
 have h0 := term_n w0 N m hN0 hT hb hx hNl (tget t.ks 0) kv0 (by omega) ok0 sm0 hI0 ss (by omega)
 have h1 := kid_n w0 N m hN0 hT hb hx hNl (tget t.ks 1) kv1 (by omega) ok1 sm1 hI1 [sg] 1 (ss ++ partsT (tget t.ks 0)) rfl (by rw [List.length_append]; omega)
 have hlow := fun W ss' (hSt : St N w w.heap.size O ss' W) => hSt.low hb hN0
 have H0 := Lib.hid h0; have H1 := Lib.hid h1; have HX := Lib.hid hx; have HN := Lib.hid hNl; have HL := Lib.hid hlow; have HR0 := Lib.hid hr0; have HR1 := Lib.hid hr1; have HKA := Lib.hid hka
 have hcq := hcap.1
 have hcl : v.kc ≤ 9223372036854775807 := hcap.2
 clear hka h0 h1 hx hNl hlow hr0 hr1 hW hz hm hok hsm hI hb hN0 hT hlen hww hkd hI0 hI1 ok0 ok1 sm0 sm1 wl0 hcap
 go_enter Tryz.func67, Tryz.ntmps67
 go_upto_region 1 with (fail)
 refine of_world (F := fun V => St N w w.heap.size O ss V) hst ?_
 intro W0 hst0
 have HS0 := Lib.hid hst0
 clear hst hst0
 obtain ⟨-, -, -, -, -, -, -, -, -, -, -, -, -, -, -, -, -, -, b18⟩ := HX.out.box W0 HS0.out.2.2
 rw [HKA.out] at b18
 have HK := Lib.hid (HR0.out W0 (HL.out W0 _ HS0.out))
 go_wp2_with (refine at_load rfl _ rfl b o rfl HK.out ?_)
 refine (H0.out W0 HS0.out).mono ?_
 rintro e w1 ⟨rfl, h1⟩
 have HS1 := Lib.hid h1
 clear h1 b18 HK
 obtain ⟨-, -, -, -, -, -, -, -, -, -, -, -, -, -, -, -, -, -, b18⟩ := HX.out.box w1 HS1.out.2.2
 rw [HKA.out] at b18
 have HK := Lib.hid (HR1.out w1 (HL.out w1 _ HS1.out))
 go_wp2_with (refine at_load rfl _ rfl b (o + 19) rfl HK.out ?_)
 refine (H1.out w1 _ rfl HS1.out).mono ?_
 rintro e w2 ⟨rfl, h2⟩
 have HE := Lib.hid h2.end_
 clear h2 b18 HK
 go_wp2_with (fail)
 go_end0
 exact HE.out.cast (List.append_assoc _ _ _)
theorem two_n (w0 : World) (N m : Nat) (hN0 : w0.heap.size ≤ N) (hT : TermOf w0 N m) {w : World} (hb : Below w0.heap.size w0 w) {N1 : Nat} {O : Obj} {h : Hd} {v : V} (hx : Bx N1 h v 2 O) (hN : N < N1) (t : AT) (hm : wt t ≤ m + 1) (hok : allT nodeB t = true) (hsm : allT smallB t = true) (hI : AtIs w0 h v 2 t)
  (sg : ByteArray) (ss : List ByteArray) (hz : ss.length + 80 * wt t ≤ 1000020) (W : World) (hs : St N w N1 O ss W) :
  Calls Tryz.prog 67 #[.pointer (some ⟨N, 0, none⟩), .agg #[.int .u8 h.h.k, .int .u8 h.h.op, .int .i64 h.h.pl, .int .i64 h.h.n, .string h.h.name, .string h.h.arg, .string h.h.exn, .int .i64 h.rho, .slice v.ra h.rhos.length v.rc, .slice v.ea h.e.length v.ec, .int .u8 h.ty.h.k, .int .i64 h.ty.h.r, .slice v.tea h.ty.h.e.length v.tec, .slice v.tka h.ty.ks.length v.tkc, .int .u8 h.re.h.k, .int .i64 h.re.h.r, .slice v.sea h.re.h.e.length v.sec, .slice v.ska h.re.ks.length v.skc, .slice v.ka 2 v.kc], .string sg] W fun e W' => e = .returned (.tuple #[]) ∧ St N w N1 O (ss ++ (partsT (tget t.ks 0) ++ ([sg] ++ partsT (tget t.ks 1)))) W' := by
 refine (two_walk w0 N m hN0 hT t h v sg ss W hm hok hsm hI (hs.low hb hN0) hs.1 hz).mono ?_
 rintro e W' ⟨rfl, hA, hW⟩
 exact ⟨rfl, hs.next hx hN hA hW⟩
set_option maxRecDepth 10000 in
set_option maxHeartbeats 3200000 in
theorem regions_walk (N : Nat) (ss : List ByteArray) (rs : List Int) (p : Option Addr) (n c : Nat) (w0 w : World) (hN0 : w0.heap.size ≤ N) (hb : Below w0.heap.size w0 w) (hnl : NumLaid w0) (hW : WAt N ss w) (hR : RdI w0 n p rs) (hn : n ≤ 1000) (hnc : n ≤ c ∧ c ≤ maxLen) (hz : ss.length + n + 2 ≤ 1000000) :
  Calls Tryz.prog 91 #[.pointer (some ⟨N, 0, none⟩), .slice p n c] w (WEnd N (ss ++ rhosW rs) w) := by
 have hlow := fun W (hWr : Wrote N w W) => (⟨hWr.os.trans hb.os, hWr.tape.trans hb.tape, hWr.output.trans hb.output, Nat.le_trans hb.size hWr.size, fun k hk => (hWr.low k (Nat.lt_of_lt_of_le hk hb.size) (by omega)).trans (hb.block k hk)⟩ : Below w0.heap.size w0 W)
 have hlen := hR.1
 have hp := fun ts m W M (hM : M = W.heap.size) (hm : ts.length = m) ss' (hA : WAt N ss' W) (hz : ss'.length + m ≤ 1000000) => put_walk N ss' ts (some ⟨M, 0, none⟩) m m (W.alloc (.cells (ts.map Value.string).toArray 9)) (hA.alloc _) (by subst hM hm; exact Src.new W ts _ _) hz
 have hrg := fun (r : Int) (h0 : -9223372036854775808 ≤ r) (h1 : r ≤ 9223372036854775807) W (hWr : Wrote N w W) => region_walk r h0 h1 W (hnl.below (hlow W hWr))
 have HP := Lib.hid hp; have HRG := Lib.hid hrg; have HLW := Lib.hid hlow; have HA := Lib.hid hW; have HR := Lib.hid hR; have HLEN := Lib.hid hlen; have HZ := Lib.hid hz
 have hcl : c ≤ 9223372036854775807 := hnc.2
 have hnc1 := hnc.1
 clear hp hrg hlow hW hR hlen hz hb hN0 hnl hnc
 go_enter Tryz.func91, Tryz.ntmps91
 go_wp2_with (fail)
 refine (HP.out [wBrO] 1 w _ rfl rfl ss HA.out (by have := HZ.out; omega)).mono ?_
 rintro e w1 ⟨rfl, hA1, hW1⟩
 have HA1 := Lib.hid hA1; have HW1 := Lib.hid (((Wrote.refl N w).alloc _).trans hW1)
 clear hA1 hW1
 go_wp2_with (fail)
 go_loopw [5, 11] (fun _ i wr => ∃ j : Nat, j ≤ n ∧ i = .int .i64 (j : Int) ∧ Hid (WAt N (ss ++ [wBrO] ++ (rs.take j).map digs) wr) ∧ Hid (Wrote N w wr)) (fun _ i _ => n - (intOf i).toNat)
 case atStart => exact ⟨0, Nat.zero_le _, rfl, Lib.hid (by rw [List.take_zero, List.map_nil, List.append_nil]; exact HA1.out), HW1⟩
 case round =>
  obtain ⟨j, hj, rfl, HAJ, HWJ⟩ := hrel
  by_cases hlt : j < n
  ·have hjl : j < rs.length := by rw [HLEN.out]; exact hlt
   obtain ⟨b, o, hp0, hc0⟩ := HR.out.get j hjl
   have hc1 := ((HLW.out wr HWJ.out).cell (World.block_lt_of_cell? w0 _ hc0)).trans hc0
   have hrr := HR.out.ok _ (Effect.nget_mem hjl)
   have htk : (rs.take (j + 1)).map digs = (rs.take j).map digs ++ [digs (Effect.nget rs j)] := by
    rw [List.take_add_one, Effect.nget_at hjl, List.map_append]; rfl
   have HC := Lib.hid (HRG.out (Effect.nget rs j) hrr.1 hrr.2 wr HWJ.out)
   have HTK := Lib.hid htk
   subst hp0
   clear hc0 hrr htk hjl
   generalize Effect.nget rs j = x at *
   go_wp2_with (fail)
   refine HC.out.mono ?_
   rintro e w2 ⟨rfl, hb2⟩
   have HA2 := Lib.hid (HAJ.out.below hb2); have HW2 := Lib.hid (HWJ.out.trans (Wrote.of_below hb2))
   clear hb2 hc1
   have HPP := Lib.hid (HP.out [digs x] 1 w2 _ rfl rfl _ HA2.out (by have := HZ.out; simp; omega))
   go_wp2_with (fail)
   refine HPP.out.mono ?_
   rintro e w3 ⟨rfl, hA3, hW3⟩
   have HA3 := Lib.hid hA3; have HW3 := Lib.hid ((HW2.out.alloc _).trans hW3)
   clear hA3 hW3
   go_wp2_with (fail)
   go_roundw
   case rel => exact ⟨j + 1, by omega, by go_num, Lib.hid (by have := HA3.out; rw [HTK.out, ← List.append_assoc]; exact this), HW3⟩
   case measure => simp [intOf]; omega
  ·obtain rfl : j = n := by omega
   have ha := HAJ.out
   rw [List.take_of_length_le (by rw [HLEN.out]; exact Nat.le_refl _)] at ha
   have hpp := HP.out [wBrC] 1 wr _ rfl rfl _ ha (by have := HZ.out; have := HLEN.out; simp; omega)
   have HPP := Lib.hid hpp
   clear ha hpp
   go_wp2_with (fail)
   refine HPP.out.mono ?_
   rintro e w3 ⟨rfl, hA3, hW3⟩
   have HE := Lib.hid (show WEnd N _ w (.returned (.tuple #[])) w3 from ⟨rfl, hA3, (HWJ.out.alloc _).trans hW3⟩)
   clear hA3 hW3
   go_wp2_with (fail)
   go_end0
   exact HE.out.cast (by unfold rhosW; simp)
theorem regions_n (w0 : World) (N : Nat) (hN0 : w0.heap.size ≤ N) (hnl : NumLaid w0) {w : World} (hb : Below w0.heap.size w0 w) {N1 : Nat} {O : Obj} {hh : Hd} {v : V} {l : Nat} (hx : Bx N1 hh v l O) (hN : N < N1) (rs : List Int) (p : Option Addr) (n c : Nat) (hR : RdI w0 n p rs) (hn : n ≤ 1000) (hnc : n ≤ c ∧ c ≤ maxLen) (ss : List ByteArray) (hz : ss.length + n + 2 ≤ 1000000) (W : World) (h : St N w N1 O ss W) :
  Calls Tryz.prog 91 #[.pointer (some ⟨N, 0, none⟩), .slice p n c] W fun e W' => e = .returned (.tuple #[]) ∧ St N w N1 O (ss ++ rhosW rs) W' := by
 refine (regions_walk N ss rs p n c w0 W hN0 (h.low hb hN0) hnl h.1 hR hn hnc hz).mono ?_
 rintro e W' ⟨rfl, hA, hW⟩
 exact ⟨rfl, h.next hx hN hA hW⟩
end Disp
end Go.Proofs.YtkfkpjngiffamaaGreatDoor
