/-Texts, a blank between them. A term's words: mathematics. The program's writer: what it has, and how words are put. The program's writer: a kid, two kids with a sign between. The program's writer: two kids with a sign between; an operation. The program's writer: what its nodes share. (Written by wip/tools/shownodes.py.) The program's writer: operations, pairs, what is set. (Written by wip/tools/shownodes.py.) -/
import Derived.Test.YtkcadkjpneoobaaGreatDoorGWordsA
import Derived.Lib.Join
import Derived.Test.YtkcadkjpneoobaaGreatDoorGParseA
import Derived.Test.YtkcadkjpneoobaaGreatDoorGTermA
import Derived.Test.YtkcadkjpneoobaaGreatDoorGParseB
import Derived.Test.YtkcadkjpneoobaaGreatDoorGTermB
import Derived.OwnWalk
import Derived.Laws.AppendOwn
import Derived.Laws.AppendOwnNone
import Derived.OrdersHeld
import Derived.LoopTactic
import Derived.StillTailTactics
namespace Go.Proofs.YtkcadkjpneoobaaGreatDoor
open Go.RowKit
set_option linter.unusedVariables false
namespace Token
open Chars (ret_i64 ret_bool)

/-- Texts, a blank between them. -/
def jb (ss : List ByteArray) : ByteArray := ⟨(Lib.join (ss.map (·.data.toList)) [32]).toArray⟩
theorem jb_list (ss : List ByteArray) : (jb ss).data.toList = Lib.join (ss.map (·.data.toList)) [32] := by simp [jb]
theorem jb_nil : jb [] = ⟨#[]⟩ := rfl
theorem jb_one (s : ByteArray) : jb [s] = s := by
  apply Words.bytes_ext
  rw [jb_list]
  simp [Lib.join_one]
theorem joinTail_snoc (sep : List UInt8) (r : List (List UInt8)) (y : List UInt8) : Lib.joinTail sep (r ++ [y]) = Lib.joinTail sep r ++ sep ++ y := by
  simp [Lib.joinTail]
theorem jb_snoc (ss : List ByteArray) (s : ByteArray) (h : ss ≠ []) : jb (ss ++ [s]) = jb ss ++ ⟨#[32]⟩ ++ s := by
  cases ss with
  | nil => exact absurd rfl h
  | cons x r =>
    apply Words.bytes_ext
    rw [jb_list]
    simp only [List.cons_append, List.map_cons, List.map_append, List.map_nil, Lib.join_cons, joinTail_snoc]
    rw [ByteArray.data_append, ByteArray.data_append, Array.toList_append, Array.toList_append, jb_list]
    simp only [List.map_cons, Lib.join_cons, List.append_assoc]
theorem jb_take_size (ss : List ByteArray) (k : Nat) : (jb (ss.take k)).size ≤ (jb ss).size := by
  have e : ∀ l : List ByteArray, (jb l).size = (Lib.join (l.map (·.data.toList)) [32]).length := fun l => by rw [← jb_list]; rfl
  rw [e, e]
  cases ss with
  | nil => simp
  | cons x r =>
    cases k with
    | zero => simp [Lib.join_nil]
    | succ k =>
      rw [List.take_succ_cons, List.map_cons, List.map_cons, List.map_take, Lib.join_cons, Lib.join_cons, List.length_append, List.length_append]
      have := Lib.joinTail_take_le [32] (r.map (·.data.toList)) k
      omega

end Token
end Go.Proofs.YtkcadkjpneoobaaGreatDoor
namespace Go.Proofs.YtkcadkjpneoobaaGreatDoor
open Go.RowKit
set_option linter.unusedVariables false
namespace Show
open Parse (wLet wLetrec wIn wFn wIf wThen wElse wRaise wTry wWith wRef wFst wSnd wExn wIs wArrow wPut wLess wAdd wSub wMul wGet wOpen wShut wComma wSemi)
open Term (Tm Hd tget wt wts okT okK nodeB)

/-- The digits of a number. -/
def digs (n : Int) : ByteArray := ⟨(Lib.itoa n).toArray⟩
/-- The part of the grammar that an operation is, and that a term is. -/
def opPartN (op : Int) : Int := if op = 4 ∨ op = 5 then 2 else if op = 3 then 4 else 3
def partN (k op : Int) : Int := if k = 12 ∨ k = 13 ∨ k = 11 ∨ k = 14 ∨ k = 16 then 0 else if k = 8 then 1 else if k = 9 then opPartN op else if k = 10 then 5 else 6
/-- What stands for a part: in brackets, if it is of a looser one. -/
def asW (p : Int) (x : Int × List ByteArray) : List ByteArray := if p ≤ x.1 then x.2 else wOpen :: (x.2 ++ [wShut])
def kd (ks : List (Int × List ByteArray)) (i : Nat) : Int × List ByteArray := ks.getD i (6, [])
/-- What stands on both sides of a sign, and the sign. -/
def signW (op : Int) : Int × ByteArray × Int := if op = 1 then (3, wAdd, 4) else if op = 2 then (3, wSub, 4) else if op = 3 then (4, wMul, 5) else if op = 4 then (3, wLess, 3) else (3, wIs, 3)
def twoW (ks : List (Int × List ByteArray)) (a : Int) (s : ByteArray) (b : Int) : List ByteArray := asW a (kd ks 0) ++ (s :: asW b (kd ks 1))
/-- A node's words, of its kids' parts and words. -/
def comb (h : Hd) (ks : List (Int × List ByteArray)) : List ByteArray :=
  if h.k = 1 then [digs h.n] else if h.k = 2 then [h.name]
  else if h.k = 3 then wOpen :: (twoW ks 0 wComma 0 ++ [wShut])
  else if h.k = 4 then wFst :: asW 6 (kd ks 0) else if h.k = 5 then wSnd :: asW 6 (kd ks 0) else if h.k = 6 then wRef :: asW 6 (kd ks 0) else if h.k = 7 then wGet :: asW 6 (kd ks 0)
  else if h.k = 8 then twoW ks 2 wPut 2
  else if h.k = 9 then twoW ks (signW h.op).1 (signW h.op).2.1 (signW h.op).2.2
  else if h.k = 10 then asW 5 (kd ks 0) ++ asW 6 (kd ks 1)
  else if h.k = 11 then [wFn, h.arg, wArrow] ++ (kd ks 0).2
  else if h.k = 12 then [wLet, h.name, wIs] ++ (kd ks 0).2 ++ (wIn :: (kd ks 1).2)
  else if h.k = 13 then [wLetrec, h.name, h.arg, wIs] ++ (kd ks 0).2 ++ (wIn :: (kd ks 1).2)
  else if h.k = 14 then wIf :: ((kd ks 0).2 ++ (wThen :: ((kd ks 1).2 ++ (wElse :: (kd ks 2).2))))
  else if h.k = 15 then [wRaise, h.exn] ++ asW 6 (kd ks 0)
  else wTry :: ((kd ks 0).2 ++ ([wWith, h.exn, h.arg, wArrow] ++ (kd ks 1).2))
mutual
/-- A term's words. -/
def wordsT : Tm → List ByteArray
  | .node h l => comb h (wordsK l)
def wordsK : List Tm → List (Int × List ByteArray)
  | [] => []
  | t :: ts => (partN t.h.k t.h.op, wordsT t) :: wordsK ts
end
theorem wordsT_eq (t : Tm) : wordsT t = comb t.h (wordsK t.ks) := by cases t; conv => lhs; unfold wordsT
                                                                     rfl
theorem wordsK_nil : wordsK [] = [] := by unfold wordsK; rfl
theorem wordsK_cons (t : Tm) (ts : List Tm) : wordsK (t :: ts) = (partN t.h.k t.h.op, wordsT t) :: wordsK ts := by conv => lhs; unfold wordsK
def kdT (t : Tm) : Int × List ByteArray := (partN t.h.k t.h.op, wordsT t)
theorem wordsK_map : ∀ ts : List Tm, wordsK ts = ts.map kdT
  | [] => wordsK_nil
  | t :: ts => by rw [wordsK_cons, wordsK_map ts]; rfl
theorem kd_get {ts : List Tm} {i : Nat} (h : i < ts.length) : kd (wordsK ts) i = kdT (tget ts i) := by
  unfold kd tget
  rw [wordsK_map, List.getD_eq_getElem?_getD, List.getElem?_map, List.getElem?_eq_getElem h, List.getD_eq_getElem?_getD, List.getElem?_eq_getElem h]
  rfl
/-- How many words there are at most. -/
theorem asW_len (p : Int) (x : Int × List ByteArray) : (asW p x).length ≤ x.2.length + 2 := by
  unfold asW; split <;> simp
theorem ite_le {c : Prop} [Decidable c] {a b n : Nat} (h1 : a ≤ n) (h2 : b ≤ n) : (if c then a else b) ≤ n := by
  by_cases hc : c
  · rw [if_pos hc]; exact h1
  · rw [if_neg hc]; exact h2
theorem comb_len (h : Hd) (ks : List (Int × List ByteArray)) : (comb h ks).length ≤ (kd ks 0).2.length + (kd ks 1).2.length + (kd ks 2).2.length + 7 := by
  have a0 := fun p => asW_len p (kd ks 0)
  have a1 := fun p => asW_len p (kd ks 1)
  have b0 := a0 0; have b1 := a1 0; have b2 := a0 2; have b3 := a1 2; have b4 := a0 6; have b5 := a0 5; have b6 := a1 6; have b7 := a0 (signW h.op).1; have b8 := a1 (signW h.op).2.2
  unfold comb twoW
  simp only [apply_ite List.length, List.length_cons, List.length_append, List.length_nil]
  repeat' (refine ite_le ?_ ?_)
  all_goals omega
theorem words_len : ∀ m : Nat, ∀ t : Tm, wt t ≤ m → t.ks.length ≤ 3 → okT t = true → (wordsT t).length ≤ 7 * wt t := by
  intro m
  induction m with
  | zero => intro t h; have := Term.wt_pos t; omega
  | succ m ih =>
    intro t hm hl hok
    rw [Term.okT_eq, Bool.and_eq_true] at hok
    have hk := Term.wt_ks t
    have each : ∀ ts : List Tm, wts ts ≤ m → okK ts = true → ∀ i, (kd (wordsK ts) i).2.length ≤ if i < ts.length then 7 * wt (tget ts i) else 0 := by
      intro ts hts hok i
      by_cases hi : i < ts.length
      · rw [if_pos hi, kd_get hi]
        have hmem := Term.tget_mem hi
        have hokt : okT (tget ts i) = true := by
          clear ih
          induction ts generalizing i with
          | nil => simp at hi
          | cons u us ihu =>
            rw [Term.okK_cons, Bool.and_eq_true] at hok
            cases i with
            | zero => exact hok.1
            | succ i => exact ihu (by rw [Term.wts_cons] at hts; omega) hok.2 i (by simpa using hi) (Term.tget_mem (by simpa using hi))
        have hwt := Term.wts_get hi
        refine ih _ (by omega) ?_ hokt
        rw [Term.okT_eq, Bool.and_eq_true] at hokt
        have := hokt.1
        unfold nodeB at this
        rw [Bool.and_eq_true] at this
        have hk := (of_decide_eq_true this.1).1
        unfold Term.kidsN at hk
        repeat' split at hk
        all_goals omega
      · rw [if_neg hi]
        unfold kd
        rw [wordsK_map, List.getD_eq_getElem?_getD, List.getElem?_map, List.getElem?_eq_none (by omega)]
        exact Nat.le_refl 0
    have e := each t.ks (by omega) hok.2
    have c := comb_len t.h (wordsK t.ks)
    have e0 := e 0
    have e1 := e 1
    have e2 := e 2
    rw [wordsT_eq, hk]
    have hsum : (if 0 < t.ks.length then 7 * wt (tget t.ks 0) else 0) + (if 1 < t.ks.length then 7 * wt (tget t.ks 1) else 0) + (if 2 < t.ks.length then 7 * wt (tget t.ks 2) else 0) ≤ 7 * wts t.ks := by
      match t.ks, hl with
      | [], _ => simp
      | [a], _ => simp [Term.wts_cons, Term.wts_nil, tget]
      | [a, b], _ => simp [Term.wts_cons, Term.wts_nil, tget]; omega
      | [a, b, c], _ => simp [Term.wts_cons, Term.wts_nil, tget]; omega
      | _ :: _ :: _ :: _ :: _, h => simp at h
    omega
/-- Each kid of one that may be may be. -/
theorem okK_get {ts : List Tm} {i : Nat} (hi : i < ts.length) (h : okK ts = true) : okT (tget ts i) = true := by
  induction ts generalizing i with
  | nil => simp at hi
  | cons u us ih =>
    rw [Term.okK_cons, Bool.and_eq_true] at h
    cases i with
    | zero => exact h.1
    | succ i => exact ih (i := i) (by simpa using hi) h.2
theorem ok_kids {t : Tm} (h : okT t = true) : Term.kidsN t.h.k = t.ks.length ∧ okK t.ks = true ∧ Term.opOk t.h := by
  rw [Term.okT_eq, Bool.and_eq_true] at h
  have := h.1
  unfold nodeB at this
  rw [Bool.and_eq_true] at this
  have hk := of_decide_eq_true this.1
  exact ⟨hk.1, h.2, hk.2.2.1⟩
theorem kidsN_le (k : Int) : Term.kidsN k ≤ 3 := by
  unfold Term.kidsN
  repeat' split
  all_goals omega
theorem words_le {t : Tm} (h : okT t = true) : (wordsT t).length ≤ 7 * wt t :=
  words_len (wt t) t (Nat.le_refl _) (by have := (ok_kids h).1; have := kidsN_le t.h.k; omega) h
end Show
end Go.Proofs.YtkcadkjpneoobaaGreatDoor
namespace Go.Proofs.YtkcadkjpneoobaaGreatDoor
open Go.RowKit
set_option linter.unusedVariables false
namespace Show
open Term (Tm Hd TmIs Kids)
open Words (StrsAt sel)

def IsStrs (O : Option Obj) : Prop := ∃ cs fz, O = some (.cells cs 9 fz)
/-- What the writer's calls turn: its variable, in block N, rows of texts, and what is new. -/
structure Wrote (N : Nat) (w w' : World) : Prop where
  os : w'.os = w.os
  tape : w'.tape = w.tape
  output : w'.output = w.output
  size : w.heap.size ≤ w'.heap.size
  low : ∀ k, k < w.heap.size → k < N → w'.heap[k]? = w.heap[k]?
  high : ∀ k, k < w.heap.size → k ≠ N → ¬ IsStrs w.heap[k]? → w'.heap[k]? = w.heap[k]?
theorem Wrote.refl (N : Nat) (w : World) : Wrote N w w := ⟨rfl, rfl, rfl, Nat.le_refl _, fun _ _ _ => rfl, fun _ _ _ _ => rfl⟩
theorem Wrote.trans {N : Nat} {a b c : World} (h : Wrote N a b) (k : Wrote N b c) : Wrote N a c :=
  ⟨k.os.trans h.os, k.tape.trans h.tape, k.output.trans h.output, Nat.le_trans h.size k.size, fun i hi hn => (k.low i (Nat.lt_of_lt_of_le hi h.size) hn).trans (h.low i hi hn),
    fun i hi hn hs => (k.high i (Nat.lt_of_lt_of_le hi h.size) hn (by rw [h.high i hi hn hs]; exact hs)).trans (h.high i hi hn hs)⟩
theorem Wrote.of_below {N : Nat} {w w' : World} (h : Below w.heap.size w w') : Wrote N w w' := ⟨h.os, h.tape, h.output, h.size, fun k hk _ => h.block k hk, fun k hk _ _ => h.block k hk⟩
theorem Wrote.alloc {N : Nat} {w w' : World} (h : Wrote N w w') (O : Obj) : Wrote N w (w'.alloc O) := h.trans (Wrote.of_below ((Below.refl _ _).alloc (Nat.le_refl _) O))
theorem Wrote.below {N : Nat} {w w' : World} (h : Wrote N w w') {a : World} (ha : Below N a w) (hN : N ≤ a.heap.size) : Below N a w' :=
  ⟨h.os.trans ha.os, h.tape.trans ha.tape, h.output.trans ha.output, Nat.le_trans ha.size h.size, fun k hk => (h.low k (Nat.lt_of_lt_of_le (Nat.lt_of_lt_of_le hk hN) ha.size) hk).trans (ha.block k hk)⟩
/-- The writer's variable, in block N: the words that it has. -/
def WAt (N : Nat) (ss : List ByteArray) (w : World) : Prop :=
  ∃ v, w.heap[N]? = some (.cells #[v] 73 (0, 0)) ∧ w.ownsRow (N + 1) 9 1 v ss.length (ss.map Value.string)
theorem WAt.lt {N : Nat} {ss : List ByteArray} {w : World} (h : WAt N ss w) : N < w.heap.size := by obtain ⟨v, h, _⟩ := h; exact lt_of_block h
theorem WAt.alloc {N : Nat} {ss : List ByteArray} {w : World} (h : WAt N ss w) (O : Obj) : WAt N ss (w.alloc O) := by
  have hl := h.lt
  obtain ⟨v, h1, h2⟩ := h
  exact ⟨v, by rw [Below.heap_alloc _ _ _ hl]; exact h1, h2.alloc O⟩
theorem WAt.below {N : Nat} {ss : List ByteArray} {w w' : World} (h : WAt N ss w) (hb : Below w.heap.size w w') : WAt N ss w' := by
  have hl := h.lt
  obtain ⟨v, h1, h2⟩ := h
  refine ⟨v, by rw [hb.block _ hl]; exact h1, h2.kept (row := none) ⟨hb.os, hb.tape, hb.output, hb.size, fun k hk _ => hb.block k hk⟩ ?_⟩
  rcases hv : v.ownBlock with _ | g
  · exact .inl rfl
  · exact .inr (by simp)
theorem ownStrs {w : World} {B n : Nat} {v : Value} {xs : List Value} (h : w.ownsRow B 9 1 v n xs) {k : Nat} (hk : ¬ IsStrs w.heap[k]?) : some k ≠ v.ownBlock := by
  intro e
  rcases h.2 with ⟨rfl, _⟩ | ⟨g, cap, cur, rfl, _, hg, _⟩
  · simp [Value.ownBlock] at e
  · simp [Value.ownBlock] at e
    subst e
    exact hk ⟨_, _, hg⟩
theorem cells1_strs (ss : List ByteArray) : ∀ u ∈ ss.map Value.string, u.oneCell' = true := by
  intro u hu
  obtain ⟨x, _, rfl⟩ := List.mem_map.1 hu
  rfl
/-- 'append(words, src...)', words the writer's own, src any texts: none or not. -/
theorem append_strs {P : Program} {w : World} {ops : Array Oper} {rest : List Oper} {o : Oper} {a : Act} {Q : Exit → Act → World → Prop} (hgd : o.guard = none) (s x : Operand) (t : TypeId)
    (ho : o.op = .call { callee := .builtin .append, args := #[s, x], argTypes := #[t, t] })
    (base : Nat) (e : TypeId) (i : TypeInfo) (z : Value) (bytes : Nat) (ht : P.underlying t = some (.slice e)) (hi : P.info? e = some i) (hz : i.zero = some z)
    (hsize : i.size = 1) (hby : i.bytes = bytes) (hzs : z.cells.size = 1)
    (v : Value) (n : Nat) (xs : List Value) (hs : a.eval s = v) (hown : w.ownsRow base e 1 v n xs)
    (p : Option Addr) (m c : Nat) (ss : List ByteArray) (hx : a.eval x = .slice p m c) (hl : ss.length = m)
    (hsrc : (p = none ∧ m = 0 ∧ c = 0 ∧ ss = []) ∨ ∃ ad, p = some ad ∧ ∀ j u, (ss.map Value.string)[j]? = some u → w.cell? (ad.add j) = some u)
    (h63 : n + m ≤ maxLen) (hbytes : (n + m) * bytes ≤ 140737488355328) (hbase : base ≤ w.heap.size)
    (h : ∀ v' w', w'.ownsRow base e 1 v' (n + m) (xs ++ ss.map Value.string) → w.grownBy w' v.ownBlock → wpList P ops Q rest (a.put o.dst v') w') : wpList P ops Q (o :: rest) a w := by
  rcases hsrc with ⟨rfl, rfl, rfl, rfl⟩ | ⟨ad, rfl, hc⟩
  · refine wpList_append_own_none hgd s x t ho base e i 1 ht hi v n xs hs hown hx (h v w ?_ (World.grownBy.refl w _))
    rw [Nat.add_zero, List.map_nil, List.append_nil]
    exact hown
  · exact wpList_append_own w hgd s x t ho base e i z 1 bytes ht hi hz hsize hby hzs (by decide) v n xs hs hown ad m c (ss.map Value.string) hx (by rw [List.length_map, hl, Nat.mul_one]) hc (cells1_strs ss) h63 hbytes hbase (fun v' w' h1 h2 _ => h v' w' h1 h2)
/-- Texts that are handed in: none, or cells. -/
def Src (w : World) (p : Option Addr) (m c : Nat) (ts : List ByteArray) : Prop :=
  ts.length = m ∧ ((p = none ∧ m = 0 ∧ c = 0 ∧ ts = []) ∨ ∃ ad, p = some ad ∧ ∀ j u, (ts.map Value.string)[j]? = some u → w.cell? (ad.add j) = some u)
theorem Src.none (w : World) : Src w .none 0 0 [] := ⟨rfl, .inl ⟨rfl, rfl, rfl, rfl⟩⟩
theorem Src.new (w : World) (ts : List ByteArray) (ty : TypeId) (fz : Nat × Nat) : Src (w.alloc (.cells (ts.map Value.string).toArray ty fz)) (some ⟨w.heap.size, 0, .none⟩) ts.length ts.length ts := by
  refine ⟨rfl, .inr ⟨_, rfl, fun j u hu => ?_⟩⟩
  have e : (⟨w.heap.size, 0, Option.none⟩ : Addr).add j = ⟨w.heap.size, j, Option.none⟩ := by unfold Addr.add; split <;> simp_all
  rw [e]
  unfold World.cell?
  rw [heap_alloc_new]
  simpa using hu
theorem Src.below {w W : World} {p : Option Addr} {m c : Nat} {ts : List ByteArray} (h : Src w p m c ts) (hb : Below w.heap.size w W) : Src W p m c ts := by
  refine ⟨h.1, h.2.imp id ?_⟩
  rintro ⟨ad, hp, hc⟩
  refine ⟨ad, hp, fun j u hu => ?_⟩
  have := hc j u hu
  rw [hb.cell (World.block_lt_of_cell? w _ this)]
  exact this
theorem infoStr : (Tryz.prog.info? 9).map (fun i => (i.zero, i.size, i.bytes)) = some (some (.string ⟨#[]⟩), 1, 16) := by kernel_rfl
/-- How a call of the writer ends. -/
def WEnd (N : Nat) (ss : List ByteArray) (w : World) (e : Ending) (w' : World) : Prop := e = .returned (.tuple #[]) ∧ WAt N ss w' ∧ Wrote N w w'

set_option maxRecDepth 10000 in
set_option maxHeartbeats 1600000 in
theorem put_walk (N : Nat) (ss ts : List ByteArray) (p : Option Addr) (m c : Nat) (w : World) (hW : WAt N ss w) (hS : Src w p m c ts) (hm : ss.length + m ≤ 1000000) :
    Calls Tryz.prog 34 #[.pointer (some ⟨N, 0, none⟩), .slice p m c] w (WEnd N (ss ++ ts) w) := by
  obtain ⟨i0, hi, hz0, hz1, hz2⟩ := info_parts infoStr
  have hN := hW.lt
  obtain ⟨v, hB, hown⟩ := hW
  obtain ⟨va, vc, hv, _, _⟩ := Term.own_slice hown
  subst hv
  have c0 : w.cell? ⟨N, 0, none⟩ = some (.slice va ss.length vc) := by simp [World.cell?, hB]
  have hfin : ∀ v' w', w'.ownsRow (N + 1) 9 1 v' (ss.length + m) (ss.map Value.string ++ ts.map Value.string) → w.grownBy w' (Value.slice va ss.length vc).ownBlock → w'.cell? ⟨N, 0, none⟩ = some (.slice va ss.length vc) ∧ w'.frozen? ⟨N, 0, none⟩ = false ∧ WEnd N (ss ++ ts) w (.returned (.tuple #[])) (w'.setCell ⟨N, 0, none⟩ v') := by
    intro v' w' h1 h2
    have hNv : some N ≠ (Value.slice va ss.length vc).ownBlock := by
      intro e
      have := (hown.lt N e.symm).1
      omega
    have hb' : w'.heap[N]? = some (.cells #[.slice va ss.length vc] 73 (0, 0)) := by rw [h2.block N hN hNv]; exact hB
    have hset : (w'.setCell ⟨N, 0, none⟩ v').heap[N]? = some (.cells #[v'] 73 (0, 0)) := by
      simp [World.setCell, Array.getElem?_modify, hb']
    have hoth : ∀ k, k ≠ N → (w'.setCell ⟨N, 0, none⟩ v').heap[k]? = w'.heap[k]? := fun k hk => Below.heap_setCell _ _ _ _ hk
    have hsz : (w'.setCell ⟨N, 0, none⟩ v').heap.size = w'.heap.size := by simp [World.setCell]
    refine ⟨by simp [World.cell?, hb'], by simp [World.frozen?, hb'], rfl, ⟨v', hset, ?_⟩, ⟨h2.os, h2.tape, h2.output, by rw [hsz]; exact h2.size, fun k hk hkN => ?_, fun k hk hkN hs => ?_⟩⟩
    · rw [List.length_append, hS.1, List.map_append]
      refine ⟨h1.1, h1.2.imp id ?_⟩
      rintro ⟨g, cap, cur, rfl, hg, hgg, rest⟩
      exact ⟨g, cap, cur, rfl, hg, by rw [hoth g (by omega)]; exact hgg, rest⟩
    · rw [hoth k (by omega)]
      exact h2.block k hk (fun e => by have := (hown.lt k e.symm).1; omega)
    · rw [hoth k hkN]
      exact h2.block k hk (ownStrs hown hs)
  have HF := Lib.hid hfin; have HO := Lib.hid hown; have HS := Lib.hid hS; have HM := Lib.hid hm
  have HI := Lib.hid hi; have HZ0 := Lib.hid hz0; have HZ1 := Lib.hid hz1; have HZ2 := Lib.hid hz2; have HN := Lib.hid hN
  clear hfin hown hS hm hi hz0 hz1 hz2 hB hN
  go_enter Tryz.func34, Tryz.ntmps34
  go_wp2_with (at_builtin; refine append_strs rfl (.tmp 8) (.tmp 9) 71 rfl (N + 1) 9 i0 (.string ⟨#[]⟩) 16 Tryz.underlying71 HI.out HZ0.out HZ1.out HZ2.out rfl (.slice va ss.length vc) _ _ rfl HO.out p m c ts rfl HS.out.1 HS.out.2 (by have := HM.out; unfold maxLen; omega) (by have := HM.out; omega) HN.out ?_; intro v3 w3 hown3 hgrow3; obtain ⟨a3, c3, rfl, _, _⟩ := Term.own_slice hown3; obtain ⟨f0, f1, f2⟩ := HF.out _ w3 hown3 hgrow3; have HW := Lib.hid f2; clear hown3 hgrow3 f2)
  go_end0
  exact HW.out
end Show
end Go.Proofs.YtkcadkjpneoobaaGreatDoor
namespace Go.Proofs.YtkcadkjpneoobaaGreatDoor
open Go.RowKit
set_option linter.unusedVariables false
set_option linter.unusedSimpArgs false
namespace Show
open Parse (wLet wLetrec wIn wFn wIf wThen wElse wRaise wTry wWith wRef wFst wSnd wExn wIs wArrow wPut wLess wAdd wSub wMul wGet wOpen wShut wComma wSemi)
open Term (Tm Hd TmIs Kids tget wt wts okT okK)
open Words (StrsAt sel)

theorem ret_i64 {a b : Int} (h : a = b) : Ending.returned (.int .i64 a) = .returned (.int .i64 b) := by rw [h]
theorem opPart_walk (op : Int) (w : World) : Calls Tryz.prog 128 #[.int .u8 op] w fun e w' => e = .returned (.int .i64 (opPartN op)) ∧ w = w' := by
  by_cases h4 : op = 4
  · subst h4
    go_enter Tryz.func128, Tryz.ntmps128
    go_wp2
    go_ret
    exact ⟨ret_i64 (by decide), rfl⟩
  by_cases h5 : op = 5
  · subst h5
    go_enter Tryz.func128, Tryz.ntmps128
    go_wp2
    go_ret
    exact ⟨ret_i64 (by decide), rfl⟩
  by_cases h3 : op = 3
  · subst h3
    go_enter Tryz.func128, Tryz.ntmps128
    go_wp2
    go_ret
    exact ⟨ret_i64 (by decide), rfl⟩
  · have e4 : (op == 4) = false := by simpa using h4
    have e5 : (op == 5) = false := by simpa using h5
    have e3 : (op == 3) = false := by simpa using h3
    have hr : opPartN op = 3 := by unfold opPartN; rw [if_neg (by omega), if_neg h3]
    have HR := Lib.hid hr
    clear hr h3 h4 h5
    go_enter Tryz.func128, Tryz.ntmps128
    go_wp2
    go_ret
    exact ⟨ret_i64 HR.out.symm, rfl⟩
set_option maxHeartbeats 1600000 in
theorem part_walk (k op pl nn : Int) (nm ar ex : ByteArray) (h0 : 1 ≤ k) (h1 : k ≤ 16) (w : World) :
    Calls Tryz.prog 100 #[.agg #[.int .u8 k, .int .u8 op, .int .i64 pl, .int .i64 nn, .string nm, .string ar, .string ex]] w fun e w' => e = .returned (.int .i64 (partN k op)) ∧ Below w.heap.size w w' := by
  have hop := fun W => opPart_walk op W
  have HOP := Lib.hid hop
  have hbox : ∀ O : Obj, Below w.heap.size w (w.alloc O) := fun O => (Below.refl _ _).alloc (Nat.le_refl _) O
  have HBOX := Lib.hid hbox
  clear hop hbox
  by_cases h9 : k = 9
  · subst h9
    go_enter Tryz.func100, Tryz.ntmps100
    go_wp2_with (fail)
    refine (HOP.out _).mono ?_
    rintro e w1 ⟨rfl, rfl⟩
    go_wp2_with (fail)
    go_ret
    exact ⟨ret_i64 (by unfold partN; simp), HBOX.out _⟩
  have hh : k = 1 ∨ k = 2 ∨ k = 3 ∨ k = 4 ∨ k = 5 ∨ k = 6 ∨ k = 7 ∨ k = 8 ∨ k = 10 ∨ k = 11 ∨ k = 12 ∨ k = 13 ∨ k = 14 ∨ k = 15 ∨ k = 16 := by omega
  clear h0 h1 h9
  rcases hh with rfl | rfl | rfl | rfl | rfl | rfl | rfl | rfl | rfl | rfl | rfl | rfl | rfl | rfl | rfl
  all_goals
    go_enter Tryz.func100, Tryz.ntmps100
    go_wp2_with (fail)
    go_ret
    exact ⟨ret_i64 (by unfold partN; simp), HBOX.out _⟩

/-- A term's box stands. -/
theorem box_kept {N M : Nat} {w w' : World} {cs : Array Value} (h : w.heap[M]? = some (.cells cs 29 (0, 0))) (hN : N < M) (hw : Wrote N w w') : w'.heap[M]? = some (.cells cs 29 (0, 0)) := by
  rw [hw.high M (lt_of_block h) (by omega) ?_]
  · exact h
  · rintro ⟨cs', fz, e⟩
    rw [h] at e
    injection e with e
    injection e with e1 e2
    revert e2
    decide
/-- What is asked of the walk of terms with fewer nodes. -/
def TermOf (w0 : World) (N m : Nat) : Prop := ∀ (t : Tm) (h : Hd) (p : Option Addr) (l c : Nat) (ss : List ByteArray) (w : World), wt t ≤ m → okT t = true → TmIs w0 h p l c t → Below w0.heap.size w0 w → WAt N ss w → ss.length + (wordsT t).length ≤ 1000000 →
  Calls Tryz.prog 35 #[.pointer (some ⟨N, 0, none⟩), .agg #[.int .u8 h.k, .int .u8 h.op, .int .i64 h.pl, .int .i64 h.n, .string h.name, .string h.arg, .string h.exn, .slice p l c]] w (WEnd N (ss ++ wordsT t) w)
theorem WEnd.cast {N : Nat} {ss ss' : List ByteArray} {w w' : World} {e : Ending} (h : WEnd N ss w e w') (hs : ss = ss') : WEnd N ss' w e w' := hs ▸ h
theorem WEnd.after {N : Nat} {ss : List ByteArray} {w w1 w' : World} {e : Ending} (h : WEnd N ss w1 e w') (hw : Wrote N w w1) : WEnd N ss w e w' := ⟨h.1, h.2.1, hw.trans h.2.2⟩
theorem okT_kind {t : Tm} (h : okT t = true) : 1 ≤ t.h.k ∧ t.h.k ≤ 16 := by
  have h1 := (ok_kids h).1
  rcases Int.lt_or_le t.h.k 1 with h2 | h2
  · have := Term.kidsN_none (k := t.h.k) (.inl h2); omega
  rcases Int.lt_or_le 16 t.h.k with h3 | h3
  · have := Term.kidsN_none (k := t.h.k) (.inr h3); omega
  exact ⟨h2, h3⟩
set_option maxRecDepth 10000 in
set_option maxHeartbeats 6400000 in
theorem kid_walk (w0 : World) (N m : Nat) (hN : w0.heap.size ≤ N) (hT : TermOf w0 N m) (t : Tm) (h : Hd) (p : Option Addr) (l c : Nat) (pt : Int) (ts : List ByteArray) (q : Option Addr) (n d : Nat) (ss : List ByteArray) (w : World)
    (hm : wt t ≤ m) (hok : okT t = true) (hI : TmIs w0 h p l c t) (hb : Below w0.heap.size w0 w) (hW : WAt N ss w) (hS : Src w q n d ts) (hz : ss.length + ts.length + (asW pt (kdT t)).length ≤ 1000000) :
    Calls Tryz.prog 68 #[.pointer (some ⟨N, 0, none⟩), .agg #[.int .u8 h.k, .int .u8 h.op, .int .i64 h.pl, .int .i64 h.n, .string h.name, .string h.arg, .string h.exn, .slice p l c], .int .i64 pt, .slice q n d] w (WEnd N (ss ++ (ts ++ asW pt (kdT t))) w) := by
  have hbox : ∀ O : Obj, Below w.heap.size w (w.alloc O) := fun O => (Below.refl _ _).alloc (Nat.le_refl _) O
  have hkk := okT_kind hok
  rw [hI.head] at hkk
  have hNw := hW.lt
  have hpt : kdT t = (partN h.k h.op, wordsT t) := by unfold kdT; rw [hI.head]
  have hput := fun O => put_walk N ss ts q n d (w.alloc O) (hW.alloc O) (hS.below (hbox O)) (by have := hS.1; omega)
  have hterm := fun ss' W h1 h2 h3 => hT t h p l c ss' W hm hok hI h1 h2 h3
  have hbelow : ∀ W, Wrote N w W → Below w0.heap.size w0 W := fun W hw => ⟨hw.os.trans hb.os, hw.tape.trans hb.tape, hw.output.trans hb.output, Nat.le_trans hb.size hw.size, fun k hk => (hw.low k (Nat.lt_of_lt_of_le hk hb.size) (by omega)).trans (hb.block k hk)⟩
  obtain ⟨k, op, pl, nn, nm, ar, ex⟩ := h
  have hpart := fun W => part_walk k op pl nn nm ar ex hkk.1 hkk.2 W
  have HPUT := Lib.hid hput; have HT := Lib.hid hterm; have HB := Lib.hid hbelow; have HP := Lib.hid hpart; have HZ := Lib.hid hz; have HPT := Lib.hid hpt; have HNW := Lib.hid hNw; have HBOX := Lib.hid hbox
  clear hput hterm hbelow hpart hz hpt hNw hbox hT hI hb hW hS hok hm hkk hN
  go_enter Tryz.func68, Tryz.ntmps68
  go_wp2_with (fail)
  refine (HPUT.out _).mono ?_
  rintro e w1 ⟨rfl, hA1, hw1⟩
  have hb1 := box_kept (heap_alloc_new w _) HNW.out hw1
  have hw1' := (Wrote.of_below (N := N) (HBOX.out _)).trans hw1
  obtain ⟨⟨b0, b1, b2, b3, b4, b5, b6, b7⟩, f0, f1, f2, f3, f4, f5, f6, f7⟩ := Parse.cells8' hb1
  have bl := lt_of_block hb1
  have HA1 := Lib.hid hA1; have HW1 := Lib.hid hw1'; have HB1 := Lib.hid hb1
  clear hA1 hw1 hw1' hb1
  go_wp2_with (fail)
  refine (HP.out _).mono ?_
  rintro e w2 ⟨rfl, hbl2⟩
  have hA2 := HA1.out.below hbl2
  have hw2 := HW1.out.trans (Wrote.of_below (N := N) hbl2)
  have hb2 : w2.heap[w.heap.size]? = _ := (hbl2.block _ (lt_of_block HB1.out)).trans HB1.out
  clear b0 b1 b2 b3 b4 b5 b6 b7 f0 f1 f2 f3 f4 f5 f6 f7 bl
  obtain ⟨⟨b0, b1, b2, b3, b4, b5, b6, b7⟩, f0, f1, f2, f3, f4, f5, f6, f7⟩ := Parse.cells8' hb2
  have bl := lt_of_block hb2
  have HA2 := Lib.hid hA2; have HW2 := Lib.hid hw2; have HB2 := Lib.hid hb2
  clear hA2 hw2 hb2 hbl2
  by_cases hpa : pt ≤ partN k op
  · have hge : (partN k op ≥ pt) := hpa
    have ha : asW pt (kdT t) = wordsT t := by unfold asW; rw [HPT.out, if_pos hpa]
    have hz2 := HZ.out
    rw [ha] at hz2
    have HA := Lib.hid ha; have HZ2 := Lib.hid hz2
    clear ha hz2
    generalize partN k op = P at *
    go_wp2_with (fail)
    refine (HT.out _ _ (HB.out _ HW2.out) HA2.out (by rw [List.length_append]; exact HZ2.out)).mono ?_
    rintro e w3 h3
    have H3 := Lib.hid ((h3.after HW2.out).cast (by rw [HA.out, List.append_assoc] : ss ++ ts ++ wordsT t = ss ++ (ts ++ asW pt (kdT t))))
    obtain rfl := h3.1
    clear h3 b0 b1 b2 b3 b4 b5 b6 b7 f0 f1 f2 f3 f4 f5 f6 f7 bl
    go_wp2_with (fail)
    go_end0
    exact H3.out
  · have hlt : partN k op < pt := by omega
    have ha : asW pt (kdT t) = wOpen :: (wordsT t ++ [wShut]) := by unfold asW; rw [HPT.out, if_neg hpa]
    have hz2 := HZ.out
    rw [ha, List.length_cons, List.length_append, List.length_singleton] at hz2
    have hput2 := put_walk N (ss ++ ts) [wOpen] (some ⟨w2.heap.size, 0, none⟩) 1 1 (w2.alloc (.cells #[.string ⟨#[40]⟩] 9)) (HA2.out.alloc _) (Src.new w2 [wOpen] _ _) (by rw [List.length_append]; omega)
    have HA := Lib.hid ha; have HZ2 := Lib.hid hz2; have HPUT2 := Lib.hid hput2
    clear ha hz2 hpa hput2
    generalize partN k op = P at *
    go_wp2_with (fail)
    refine HPUT2.out.mono ?_
    rintro e w3 ⟨rfl, hA3, hw3⟩
    have hw3' := HW2.out.trans (((Wrote.refl N w2).alloc _).trans hw3)
    have hb3 := box_kept HB2.out HNW.out (((Wrote.refl N w2).alloc _).trans hw3)
    clear b0 b1 b2 b3 b4 b5 b6 b7 f0 f1 f2 f3 f4 f5 f6 f7 bl
    obtain ⟨⟨b0, b1, b2, b3, b4, b5, b6, b7⟩, f0, f1, f2, f3, f4, f5, f6, f7⟩ := Parse.cells8' hb3
    have bl := lt_of_block hb3
    have HA3 := Lib.hid hA3; have HW3 := Lib.hid hw3'
    clear hA3 hw3 hw3' hb3
    go_wp2_with (fail)
    refine (HT.out _ _ (HB.out _ HW3.out) HA3.out (by rw [List.length_append, List.length_append, List.length_singleton]; have := HZ2.out; omega)).mono ?_
    rintro e w4 ⟨rfl, hA4, hw4⟩
    have hput4 := put_walk N (ss ++ ts ++ [wOpen] ++ wordsT t) [wShut] (some ⟨w4.heap.size, 0, none⟩) 1 1 (w4.alloc (.cells #[.string ⟨#[41]⟩] 9)) (hA4.alloc _) (Src.new w4 [wShut] _ _) (by rw [List.length_append, List.length_append, List.length_append, List.length_singleton]; have := HZ2.out; omega)
    have HPUT4 := Lib.hid hput4; have HW4 := Lib.hid (HW3.out.trans hw4)
    clear hput4 hA4 hw4 b0 b1 b2 b3 b4 b5 b6 b7 f0 f1 f2 f3 f4 f5 f6 f7 bl
    go_wp2_with (fail)
    refine HPUT4.out.mono ?_
    rintro e w5 h5
    have H5 := Lib.hid ((h5.after (HW4.out.alloc _)).cast (by rw [HA.out]; simp : ss ++ ts ++ [wOpen] ++ wordsT t ++ [wShut] = ss ++ (ts ++ asW pt (kdT t))))
    obtain rfl := h5.1
    clear h5
    go_wp2_with (fail)
    go_end0
    exact H5.out
end Show
end Go.Proofs.YtkcadkjpneoobaaGreatDoor
namespace Go.Proofs.YtkcadkjpneoobaaGreatDoor
open Go.RowKit
set_option linter.unusedVariables false
set_option linter.unusedSimpArgs false
namespace Show
open Parse (wLet wLetrec wIn wFn wIf wThen wElse wRaise wTry wWith wRef wFst wSnd wExn wIs wArrow wPut wLess wAdd wSub wMul wGet wOpen wShut wComma wSemi)
open Term (Tm Hd TmIs Kids tget wt wts okT okK)
open Words (StrsAt sel)

/-- A kid's eight cells. -/
def Kid8 (W : World) (b o : Nat) (h : Hd) (q : Option Addr) (l c : Nat) : Prop :=
  W.cell? ⟨b, o, none⟩ = some (.int .u8 h.k) ∧ W.cell? ⟨b, o + 1, none⟩ = some (.int .u8 h.op) ∧ W.cell? ⟨b, o + 2, none⟩ = some (.int .i64 h.pl) ∧ W.cell? ⟨b, o + 3, none⟩ = some (.int .i64 h.n) ∧
  W.cell? ⟨b, o + 4, none⟩ = some (.string h.name) ∧ W.cell? ⟨b, o + 5, none⟩ = some (.string h.arg) ∧ W.cell? ⟨b, o + 6, none⟩ = some (.string h.exn) ∧ W.cell? ⟨b, o + 7, none⟩ = some (.slice q l c) ∧ b < W.heap.size
/-- A term's kids, where they stand. -/
theorem kids_at {w0 : World} {h : Hd} {p : Option Addr} {l c : Nat} {t : Tm} (hI : TmIs w0 h p l c t) (hl : 0 < l) :
    ∃ b o, p = some ⟨b, o, none⟩ ∧ ∀ i, i < l → ∃ q d, TmIs w0 (tget t.ks i).h q (tget t.ks i).ks.length d (tget t.ks i) ∧ ∀ W, Below w0.heap.size w0 W → Kid8 W b (o + i * 8) (tget t.ks i).h q (tget t.ks i).ks.length d := by
  have hlen := hI.len
  obtain ⟨b, o, q, d, rfl, _⟩ := hI.kids.get 0 (by omega)
  refine ⟨b, o, rfl, fun i hi => ?_⟩
  obtain ⟨b', o', q', d', hp, hT, c0, c1, c2, c3, c4, c5, c6, c7⟩ := hI.kids.get i (by omega)
  obtain ⟨rfl, rfl⟩ : b = b' ∧ o = o' := by injection hp with hp; injection hp with h1 h2; exact ⟨h1, h2⟩
  have hlt := World.block_lt_of_cell? w0 _ c0
  have R := fun W (hb : Below w0.heap.size w0 W) => Term.Reads.of_below hb
  exact ⟨q', d', hT, fun W hb => ⟨R W hb _ _ c0, R W hb _ _ c1, R W hb _ _ c2, R W hb _ _ c3, R W hb _ _ c4, R W hb _ _ c5, R W hb _ _ c6, R W hb _ _ c7, Nat.lt_of_lt_of_le hlt hb.size⟩⟩
theorem asW_pos (p : Int) (x : Int × List ByteArray) : x.2.length ≤ (asW p x).length := by
  unfold asW; split
  · exact Nat.le_refl _
  · simp; omega
theorem kid_wt {t : Tm} {i m : Nat} (hi : i < t.ks.length) (hm : wt t ≤ m + 1) : wt (tget t.ks i) ≤ m := by
  have := Term.wts_get hi
  have := Term.wt_ks t
  omega
theorem kid_ok {t : Tm} {i : Nat} (hi : i < t.ks.length) (h : okT t = true) : okT (tget t.ks i) = true := okK_get hi (ok_kids h).2.1

set_option maxRecDepth 10000 in
set_option maxHeartbeats 6400000 in
theorem two_walk (w0 : World) (N m : Nat) (hN : w0.heap.size ≤ N) (hT : TermOf w0 N m) (t : Tm) (h : Hd) (p : Option Addr) (l c : Nat) (x y : Int) (s : ByteArray) (ss : List ByteArray) (w : World)
    (hm : wt t ≤ m + 1) (hok : okT t = true) (hl : l = 2) (hI : TmIs w0 h p l c t) (hb : Below w0.heap.size w0 w) (hW : WAt N ss w) (hz : ss.length + (twoW (wordsK t.ks) x s y).length ≤ 1000000) :
    Calls Tryz.prog 67 #[.pointer (some ⟨N, 0, none⟩), .agg #[.int .u8 h.k, .int .u8 h.op, .int .i64 h.pl, .int .i64 h.n, .string h.name, .string h.arg, .string h.exn, .slice p l c], .int .i64 x, .string s, .int .i64 y] w (WEnd N (ss ++ twoW (wordsK t.ks) x s y) w) := by
  subst hl
  have hbox : ∀ O : Obj, Below w.heap.size w (w.alloc O) := fun O => (Below.refl _ _).alloc (Nat.le_refl _) O
  have hNw := hW.lt
  have hlen := hI.len
  obtain ⟨b, o, rfl, hk⟩ := kids_at hI (by omega)
  obtain ⟨q0, d0, hI0, hc0⟩ := hk 0 (by omega)
  obtain ⟨q1, d1, hI1, hc1⟩ := hk 1 (by omega)
  rw [show o + 0 * 8 = o from by omega] at hc0
  rw [show o + 1 * 8 = o + 8 from by omega] at hc1
  have hcap := hI.cap
  unfold twoW at hz ⊢
  rw [kd_get (by omega), kd_get (by omega), List.length_append, List.length_cons] at hz
  rw [kd_get (by omega), kd_get (by omega)]
  have hbelow : ∀ W, Wrote N w W → Below w0.heap.size w0 W := fun W hw => ⟨hw.os.trans hb.os, hw.tape.trans hb.tape, hw.output.trans hb.output, Nat.le_trans hb.size hw.size, fun k hk => (hw.low k (Nat.lt_of_lt_of_le hk hb.size) (by omega)).trans (hb.block k hk)⟩
  have hw1 : ∀ O : Obj, Wrote N w (w.alloc O) := fun O => Wrote.of_below (hbox O)
  have hk0 := fun O : Obj => kid_walk w0 N m hN hT (tget t.ks 0) _ q0 _ d0 x [] none 0 0 ss (w.alloc O) (kid_wt (by omega) hm) (kid_ok (by omega) hok) hI0 (hbelow _ (hw1 O)) (hW.alloc O) (Src.none _) (by rw [List.length_nil]; omega)
  have hk1 := fun W (hb : Below w0.heap.size w0 W) (hW : WAt N (ss ++ asW x (kdT (tget t.ks 0))) W) => kid_walk w0 N m hN hT (tget t.ks 1) _ q1 _ d1 y [s] (some ⟨W.heap.size, 0, none⟩) 1 1 (ss ++ asW x (kdT (tget t.ks 0))) (W.alloc (.cells #[.string s] 9)) (kid_wt (by omega) hm) (kid_ok (by omega) hok) hI1 (hb.alloc hb.size _) (hW.alloc _) (Src.new W [s] _ _) (by rw [List.length_append, List.length_singleton]; omega)
  have e0 := hc0 _ (hbelow _ (hw1 (.cells #[.int .u8 h.k, .int .u8 h.op, .int .i64 h.pl, .int .i64 h.n, .string h.name, .string h.arg, .string h.exn, .slice (some ⟨b, o, none⟩) 2 c] 29)))
  obtain ⟨k, op, pl, nn, nm, ar, ex⟩ := h
  obtain ⟨a0, a1, a2, a3, a4, a5, a6, a7, al⟩ := e0
  have hcl : c ≤ 9223372036854775807 := by have := hcap.2; unfold maxLen at this; exact this
  have hc2 := hcap.1
  have HK0 := Lib.hid hk0; have HK1 := Lib.hid hk1; have HB := Lib.hid hbelow; have HC1 := Lib.hid hc1; have HNW := Lib.hid hNw; have HW1 := Lib.hid hw1
  clear hk0 hk1 hbelow hc1 hc0 hNw hbox hw1 hk hI hI0 hI1 hb hW hok hm hN hT hz hlen hcap
  go_enter Tryz.func67, Tryz.ntmps67
  go_wp2_with (fail)
  refine (HK0.out _).mono ?_
  rintro e w1 ⟨rfl, hA1, hwr1⟩
  have hb1 := box_kept (heap_alloc_new w _) HNW.out hwr1
  have hw1' := (HW1.out _).trans hwr1
  obtain ⟨⟨b0, b1, b2, b3, b4, b5, b6, b7⟩, f0, f1, f2, f3, f4, f5, f6, f7⟩ := Parse.cells8' hb1
  have bl := lt_of_block hb1
  clear a0 a1 a2 a3 a4 a5 a6 a7 al
  obtain ⟨a0, a1, a2, a3, a4, a5, a6, a7, al⟩ := HC1.out _ (HB.out _ hw1')
  have HK1' := Lib.hid (HK1.out w1 (HB.out _ hw1') hA1)
  have HWW := Lib.hid hw1'
  clear hA1 hwr1 hw1' hb1
  go_wp2_with (fail)
  refine HK1'.out.mono ?_
  rintro e w2 h2
  have H2 := Lib.hid ((h2.after (HWW.out.alloc _)).cast (by simp : ss ++ asW x (kdT (tget t.ks 0)) ++ ([s] ++ asW y (kdT (tget t.ks 1))) = ss ++ (asW x (kdT (tget t.ks 0)) ++ s :: asW y (kdT (tget t.ks 1)))))
  obtain rfl := h2.1
  clear h2
  go_wp2_with (fail)
  go_end0
  exact H2.out
end Show
end Go.Proofs.YtkcadkjpneoobaaGreatDoor
namespace Go.Proofs.YtkcadkjpneoobaaGreatDoor
open Go.RowKit
set_option linter.unusedVariables false
set_option linter.unusedSimpArgs false
namespace Show
open Parse (wLet wLetrec wIn wFn wIf wThen wElse wRaise wTry wWith wRef wFst wSnd wExn wIs wArrow wPut wLess wAdd wSub wMul wGet wOpen wShut wComma wSemi)
open Term (Tm Hd TmIs Kids tget wt wts okT okK)
open Words (StrsAt sel)
theorem Wrote.drew {N : Nat} {w w' : World} (h : Wrote N w w') : Wrote N w w'.drew := ⟨h.os, h.tape, h.output, h.size, h.low, h.high⟩
theorem WAt.drew {N : Nat} {ss : List ByteArray} {w : World} (h : WAt N ss w) : WAt N ss w.drew := h
theorem heap_alloc_size (w : World) (O : Obj) : (w.alloc O).heap.size = w.heap.size + 1 := by simp
theorem partN_pos (k op : Int) : 0 ≤ partN k op := by
  unfold partN opPartN
  repeat' split
  all_goals omega
theorem asW_zero (u : Tm) : asW 0 (kdT u) = (kdT u).2 := by
  unfold asW kdT
  exact if_pos (partN_pos _ _)
end Show
end Go.Proofs.YtkcadkjpneoobaaGreatDoor
namespace Go.Proofs.YtkcadkjpneoobaaGreatDoor
open Go.RowKit
set_option linter.unusedVariables false
set_option linter.unusedSimpArgs false
namespace Show
open Parse (wLet wLetrec wIn wFn wIf wThen wElse wRaise wTry wWith wRef wFst wSnd wExn wIs wArrow wPut wLess wAdd wSub wMul wGet wOpen wShut wComma wSemi)
open Term (Tm Hd TmIs Kids tget wt wts okT okK)
open Words (StrsAt sel)
set_option maxRecDepth 10000 in
set_option maxHeartbeats 6400000 in
theorem op_1 (w0 : World) (N m : Nat) (hN : w0.heap.size ≤ N) (hT : TermOf w0 N m) (t : Tm) (pl nn : Int) (nm ar ex : ByteArray) (p : Option Addr) (l c : Nat) (ss : List ByteArray) (w : World)
    (hm : wt t ≤ m + 1) (hok : okT t = true) (hI : TmIs w0 ⟨9, 1, pl, nn, nm, ar, ex⟩ p l c t) (hb : Below w0.heap.size w0 w) (hW : WAt N ss w) (hz : ss.length + (wordsT t).length ≤ 1000000) :
    Calls Tryz.prog 69 #[.pointer (some ⟨N, 0, none⟩), .agg #[.int .u8 9, .int .u8 1, .int .i64 pl, .int .i64 nn, .string nm, .string ar, .string ex, .slice p l c]] w (WEnd N (ss ++ wordsT t) w) := by
  have hbox : ∀ O : Obj, Below w.heap.size w (w.alloc O) := fun O => (Below.refl _ _).alloc (Nat.le_refl _) O
  have hkk := (ok_kids hok).1
  rw [hI.head] at hkk
  have hl : l = 2 := by have e : Term.kidsN 9 = 2 := by decide
                        have hkk' : Term.kidsN 9 = (t.ks.length : Int) := hkk
                        have := hI.len
                        omega
  have hNw := hW.lt
  have ew : wordsT t = twoW (wordsK t.ks) 3 wAdd 4 := by
    rw [wordsT_eq, hI.head]
    unfold comb signW
    rfl
  rw [ew] at hz ⊢
  try simp only [List.length_append, List.length_cons, List.length_nil] at hz
  have h2 := fun O => two_walk w0 N m hN hT t _ p l c 3 4 wAdd ss (w.alloc O) hm hok hl hI (hb.alloc hb.size O) (hW.alloc O) hz
  have H2 := Lib.hid h2; have HBOX := Lib.hid hbox
  clear h2 hbox hI hb hW hok hm hN hT hz hkk ew hl hNw
  go_enter Tryz.func69, Tryz.ntmps69
  go_wp2_with (fail)
  refine (H2.out _).mono ?_
  rintro e w1 h1
  have hr := h1.after (Wrote.of_below (HBOX.out _))
  have H1 := Lib.hid hr
  obtain rfl := h1.1
  clear h1 hr
  go_wp2_with (fail)
  go_end0
  exact H1.out
set_option maxRecDepth 10000 in
set_option maxHeartbeats 6400000 in
theorem op_2 (w0 : World) (N m : Nat) (hN : w0.heap.size ≤ N) (hT : TermOf w0 N m) (t : Tm) (pl nn : Int) (nm ar ex : ByteArray) (p : Option Addr) (l c : Nat) (ss : List ByteArray) (w : World)
    (hm : wt t ≤ m + 1) (hok : okT t = true) (hI : TmIs w0 ⟨9, 2, pl, nn, nm, ar, ex⟩ p l c t) (hb : Below w0.heap.size w0 w) (hW : WAt N ss w) (hz : ss.length + (wordsT t).length ≤ 1000000) :
    Calls Tryz.prog 69 #[.pointer (some ⟨N, 0, none⟩), .agg #[.int .u8 9, .int .u8 2, .int .i64 pl, .int .i64 nn, .string nm, .string ar, .string ex, .slice p l c]] w (WEnd N (ss ++ wordsT t) w) := by
  have hbox : ∀ O : Obj, Below w.heap.size w (w.alloc O) := fun O => (Below.refl _ _).alloc (Nat.le_refl _) O
  have hkk := (ok_kids hok).1
  rw [hI.head] at hkk
  have hl : l = 2 := by have e : Term.kidsN 9 = 2 := by decide
                        have hkk' : Term.kidsN 9 = (t.ks.length : Int) := hkk
                        have := hI.len
                        omega
  have hNw := hW.lt
  have ew : wordsT t = twoW (wordsK t.ks) 3 wSub 4 := by
    rw [wordsT_eq, hI.head]
    unfold comb signW
    rfl
  rw [ew] at hz ⊢
  try simp only [List.length_append, List.length_cons, List.length_nil] at hz
  have h2 := fun O => two_walk w0 N m hN hT t _ p l c 3 4 wSub ss (w.alloc O) hm hok hl hI (hb.alloc hb.size O) (hW.alloc O) hz
  have H2 := Lib.hid h2; have HBOX := Lib.hid hbox
  clear h2 hbox hI hb hW hok hm hN hT hz hkk ew hl hNw
  go_enter Tryz.func69, Tryz.ntmps69
  go_wp2_with (fail)
  refine (H2.out _).mono ?_
  rintro e w1 h1
  have hr := h1.after (Wrote.of_below (HBOX.out _))
  have H1 := Lib.hid hr
  obtain rfl := h1.1
  clear h1 hr
  go_wp2_with (fail)
  go_end0
  exact H1.out
set_option maxRecDepth 10000 in
set_option maxHeartbeats 6400000 in
theorem op_3 (w0 : World) (N m : Nat) (hN : w0.heap.size ≤ N) (hT : TermOf w0 N m) (t : Tm) (pl nn : Int) (nm ar ex : ByteArray) (p : Option Addr) (l c : Nat) (ss : List ByteArray) (w : World)
    (hm : wt t ≤ m + 1) (hok : okT t = true) (hI : TmIs w0 ⟨9, 3, pl, nn, nm, ar, ex⟩ p l c t) (hb : Below w0.heap.size w0 w) (hW : WAt N ss w) (hz : ss.length + (wordsT t).length ≤ 1000000) :
    Calls Tryz.prog 69 #[.pointer (some ⟨N, 0, none⟩), .agg #[.int .u8 9, .int .u8 3, .int .i64 pl, .int .i64 nn, .string nm, .string ar, .string ex, .slice p l c]] w (WEnd N (ss ++ wordsT t) w) := by
  have hbox : ∀ O : Obj, Below w.heap.size w (w.alloc O) := fun O => (Below.refl _ _).alloc (Nat.le_refl _) O
  have hkk := (ok_kids hok).1
  rw [hI.head] at hkk
  have hl : l = 2 := by have e : Term.kidsN 9 = 2 := by decide
                        have hkk' : Term.kidsN 9 = (t.ks.length : Int) := hkk
                        have := hI.len
                        omega
  have hNw := hW.lt
  have ew : wordsT t = twoW (wordsK t.ks) 4 wMul 5 := by
    rw [wordsT_eq, hI.head]
    unfold comb signW
    rfl
  rw [ew] at hz ⊢
  try simp only [List.length_append, List.length_cons, List.length_nil] at hz
  have h2 := fun O => two_walk w0 N m hN hT t _ p l c 4 5 wMul ss (w.alloc O) hm hok hl hI (hb.alloc hb.size O) (hW.alloc O) hz
  have H2 := Lib.hid h2; have HBOX := Lib.hid hbox
  clear h2 hbox hI hb hW hok hm hN hT hz hkk ew hl hNw
  go_enter Tryz.func69, Tryz.ntmps69
  go_wp2_with (fail)
  refine (H2.out _).mono ?_
  rintro e w1 h1
  have hr := h1.after (Wrote.of_below (HBOX.out _))
  have H1 := Lib.hid hr
  obtain rfl := h1.1
  clear h1 hr
  go_wp2_with (fail)
  go_end0
  exact H1.out
set_option maxRecDepth 10000 in
set_option maxHeartbeats 6400000 in
theorem op_4 (w0 : World) (N m : Nat) (hN : w0.heap.size ≤ N) (hT : TermOf w0 N m) (t : Tm) (pl nn : Int) (nm ar ex : ByteArray) (p : Option Addr) (l c : Nat) (ss : List ByteArray) (w : World)
    (hm : wt t ≤ m + 1) (hok : okT t = true) (hI : TmIs w0 ⟨9, 4, pl, nn, nm, ar, ex⟩ p l c t) (hb : Below w0.heap.size w0 w) (hW : WAt N ss w) (hz : ss.length + (wordsT t).length ≤ 1000000) :
    Calls Tryz.prog 69 #[.pointer (some ⟨N, 0, none⟩), .agg #[.int .u8 9, .int .u8 4, .int .i64 pl, .int .i64 nn, .string nm, .string ar, .string ex, .slice p l c]] w (WEnd N (ss ++ wordsT t) w) := by
  have hbox : ∀ O : Obj, Below w.heap.size w (w.alloc O) := fun O => (Below.refl _ _).alloc (Nat.le_refl _) O
  have hkk := (ok_kids hok).1
  rw [hI.head] at hkk
  have hl : l = 2 := by have e : Term.kidsN 9 = 2 := by decide
                        have hkk' : Term.kidsN 9 = (t.ks.length : Int) := hkk
                        have := hI.len
                        omega
  have hNw := hW.lt
  have ew : wordsT t = twoW (wordsK t.ks) 3 wLess 3 := by
    rw [wordsT_eq, hI.head]
    unfold comb signW
    rfl
  rw [ew] at hz ⊢
  try simp only [List.length_append, List.length_cons, List.length_nil] at hz
  have h2 := fun O => two_walk w0 N m hN hT t _ p l c 3 3 wLess ss (w.alloc O) hm hok hl hI (hb.alloc hb.size O) (hW.alloc O) hz
  have H2 := Lib.hid h2; have HBOX := Lib.hid hbox
  clear h2 hbox hI hb hW hok hm hN hT hz hkk ew hl hNw
  go_enter Tryz.func69, Tryz.ntmps69
  go_wp2_with (fail)
  refine (H2.out _).mono ?_
  rintro e w1 h1
  have hr := h1.after (Wrote.of_below (HBOX.out _))
  have H1 := Lib.hid hr
  obtain rfl := h1.1
  clear h1 hr
  go_wp2_with (fail)
  go_end0
  exact H1.out
set_option maxRecDepth 10000 in
set_option maxHeartbeats 6400000 in
theorem op_5 (w0 : World) (N m : Nat) (hN : w0.heap.size ≤ N) (hT : TermOf w0 N m) (t : Tm) (pl nn : Int) (nm ar ex : ByteArray) (p : Option Addr) (l c : Nat) (ss : List ByteArray) (w : World)
    (hm : wt t ≤ m + 1) (hok : okT t = true) (hI : TmIs w0 ⟨9, 5, pl, nn, nm, ar, ex⟩ p l c t) (hb : Below w0.heap.size w0 w) (hW : WAt N ss w) (hz : ss.length + (wordsT t).length ≤ 1000000) :
    Calls Tryz.prog 69 #[.pointer (some ⟨N, 0, none⟩), .agg #[.int .u8 9, .int .u8 5, .int .i64 pl, .int .i64 nn, .string nm, .string ar, .string ex, .slice p l c]] w (WEnd N (ss ++ wordsT t) w) := by
  have hbox : ∀ O : Obj, Below w.heap.size w (w.alloc O) := fun O => (Below.refl _ _).alloc (Nat.le_refl _) O
  have hkk := (ok_kids hok).1
  rw [hI.head] at hkk
  have hl : l = 2 := by have e : Term.kidsN 9 = 2 := by decide
                        have hkk' : Term.kidsN 9 = (t.ks.length : Int) := hkk
                        have := hI.len
                        omega
  have hNw := hW.lt
  have ew : wordsT t = twoW (wordsK t.ks) 3 wIs 3 := by
    rw [wordsT_eq, hI.head]
    unfold comb signW
    rfl
  rw [ew] at hz ⊢
  try simp only [List.length_append, List.length_cons, List.length_nil] at hz
  have h2 := fun O => two_walk w0 N m hN hT t _ p l c 3 3 wIs ss (w.alloc O) hm hok hl hI (hb.alloc hb.size O) (hW.alloc O) hz
  have H2 := Lib.hid h2; have HBOX := Lib.hid hbox
  clear h2 hbox hI hb hW hok hm hN hT hz hkk ew hl hNw
  go_enter Tryz.func69, Tryz.ntmps69
  go_wp2_with (fail)
  refine (H2.out _).mono ?_
  rintro e w1 h1
  have hr := h1.after (Wrote.of_below (HBOX.out _))
  have H1 := Lib.hid hr
  obtain rfl := h1.1
  clear h1 hr
  go_wp2_with (fail)
  go_end0
  exact H1.out
set_option maxRecDepth 10000 in
set_option maxHeartbeats 6400000 in
theorem term_set (w0 : World) (N m : Nat) (hN : w0.heap.size ≤ N) (hT : TermOf w0 N m) (t : Tm) (op pl nn : Int) (nm ar ex : ByteArray) (p : Option Addr) (l c : Nat) (ss : List ByteArray) (w : World)
    (hm : wt t ≤ m + 1) (hok : okT t = true) (hI : TmIs w0 ⟨8, op, pl, nn, nm, ar, ex⟩ p l c t) (hb : Below w0.heap.size w0 w) (hW : WAt N ss w) (hz : ss.length + (wordsT t).length ≤ 1000000) :
    Calls Tryz.prog 35 #[.pointer (some ⟨N, 0, none⟩), .agg #[.int .u8 8, .int .u8 op, .int .i64 pl, .int .i64 nn, .string nm, .string ar, .string ex, .slice p l c]] w (WEnd N (ss ++ wordsT t) w) := by
  have hbox : ∀ O : Obj, Below w.heap.size w (w.alloc O) := fun O => (Below.refl _ _).alloc (Nat.le_refl _) O
  have hkk := (ok_kids hok).1
  rw [hI.head] at hkk
  have hl : l = 2 := by have e : Term.kidsN 8 = 2 := by decide
                        have hkk' : Term.kidsN 8 = (t.ks.length : Int) := hkk
                        have := hI.len
                        omega
  have hNw := hW.lt
  have ew : wordsT t = twoW (wordsK t.ks) 2 wPut 2 := by
    rw [wordsT_eq, hI.head]
    unfold comb signW
    rfl
  rw [ew] at hz ⊢
  try simp only [List.length_append, List.length_cons, List.length_nil] at hz
  have h2 := fun O => two_walk w0 N m hN hT t _ p l c 2 2 wPut ss (w.alloc O) hm hok hl hI (hb.alloc hb.size O) (hW.alloc O) hz
  have H2 := Lib.hid h2; have HBOX := Lib.hid hbox
  clear h2 hbox hI hb hW hok hm hN hT hz hkk ew hl hNw
  go_enter Tryz.func35, Tryz.ntmps35
  go_wp2_with (fail)
  refine (H2.out _).mono ?_
  rintro e w1 h1
  have hr := h1.after (Wrote.of_below (HBOX.out _))
  have H1 := Lib.hid hr
  obtain rfl := h1.1
  clear h1 hr
  go_wp2_with (fail)
  go_end0
  exact H1.out
set_option maxRecDepth 10000 in
set_option maxHeartbeats 6400000 in
theorem term_pair (w0 : World) (N m : Nat) (hN : w0.heap.size ≤ N) (hT : TermOf w0 N m) (t : Tm) (op pl nn : Int) (nm ar ex : ByteArray) (p : Option Addr) (l c : Nat) (ss : List ByteArray) (w : World)
    (hm : wt t ≤ m + 1) (hok : okT t = true) (hI : TmIs w0 ⟨3, op, pl, nn, nm, ar, ex⟩ p l c t) (hb : Below w0.heap.size w0 w) (hW : WAt N ss w) (hz : ss.length + (wordsT t).length ≤ 1000000) :
    Calls Tryz.prog 35 #[.pointer (some ⟨N, 0, none⟩), .agg #[.int .u8 3, .int .u8 op, .int .i64 pl, .int .i64 nn, .string nm, .string ar, .string ex, .slice p l c]] w (WEnd N (ss ++ wordsT t) w) := by
  have hbox : ∀ O : Obj, Below w.heap.size w (w.alloc O) := fun O => (Below.refl _ _).alloc (Nat.le_refl _) O
  have hkk := (ok_kids hok).1
  rw [hI.head] at hkk
  have hl : l = 2 := by have e : Term.kidsN 3 = 2 := by decide
                        have hkk' : Term.kidsN 3 = (t.ks.length : Int) := hkk
                        have := hI.len
                        omega
  have hNw := hW.lt
  have ew : wordsT t = wOpen :: (twoW (wordsK t.ks) 0 wComma 0 ++ [wShut]) := by
    rw [wordsT_eq, hI.head]
    unfold comb signW
    rfl
  rw [ew] at hz ⊢
  try simp only [List.length_append, List.length_cons, List.length_nil] at hz
  have hbelow : ∀ W, Wrote N w W → Below w0.heap.size w0 W := fun W hw => ⟨hw.os.trans hb.os, hw.tape.trans hb.tape, hw.output.trans hb.output, Nat.le_trans hb.size hw.size, fun k hk => (hw.low k (Nat.lt_of_lt_of_le hk hb.size) (by omega)).trans (hb.block k hk)⟩
  have hp1 := fun O => put_walk N ss [wOpen] (some ⟨w.heap.size + 1, 0, none⟩) 1 1 ((w.alloc O).alloc (.cells #[.string ⟨#[40]⟩] 9)) ((hW.alloc O).alloc _) ((heap_alloc_size w O) ▸ Src.new (w.alloc O) [wOpen] _ _) (by omega)
  have h2 := fun W (hb : Below w0.heap.size w0 W) (hW : WAt N (ss ++ [wOpen]) W) => two_walk w0 N m hN hT t _ p l c 0 0 wComma (ss ++ [wOpen]) W hm hok hl hI hb hW (by simp only [List.length_append, List.length_cons, List.length_nil]; omega)
  have hp3 := fun W (hW : WAt N (ss ++ [wOpen] ++ twoW (wordsK t.ks) 0 wComma 0) W) => put_walk N (ss ++ [wOpen] ++ twoW (wordsK t.ks) 0 wComma 0) [wShut] (some ⟨W.heap.size, 0, none⟩) 1 1 (W.alloc (.cells #[.string ⟨#[41]⟩] 9)) (hW.alloc _) (Src.new W [wShut] _ _) (by simp only [List.length_append, List.length_cons, List.length_nil]; omega)
  have hX : (w.alloc (.cells #[.int .u8 3, .int .u8 op, .int .i64 pl, .int .i64 nn, .string nm, .string ar, .string ex, .slice p l c] 29)).heap[w.heap.size]? = some (.cells #[.int .u8 3, .int .u8 op, .int .i64 pl, .int .i64 nn, .string nm, .string ar, .string ex, .slice p l c] 29 (0, 0)) := heap_alloc_new w _
  have HP1 := Lib.hid hp1; have H2 := Lib.hid h2; have HP3 := Lib.hid hp3; have HBOX := Lib.hid hbox; have HB := Lib.hid hbelow; have HNW := Lib.hid hNw; have HX := Lib.hid hX
  clear hp1 h2 hp3 hbox hbelow hI hb hW hok hm hN hT hz hkk ew hl hNw hX
  go_enter Tryz.func35, Tryz.ntmps35
  go_wp2_with (fail)
  refine (HP1.out _).mono ?_
  rintro e w1 h1
  have hr := h1.after ((Wrote.refl N (w.alloc (.cells #[.int .u8 3, .int .u8 op, .int .i64 pl, .int .i64 nn, .string nm, .string ar, .string ex, .slice p l c] 29))).alloc _)
  obtain rfl := h1.1
  have hX1 := box_kept HX.out HNW.out hr.2.2
  have HR := Lib.hid ((Wrote.of_below (HBOX.out _)).trans hr.2.2); have HA := Lib.hid h1.2.1; have HX1 := Lib.hid hX1
  clear h1 hr hX1
  obtain ⟨⟨b0, b1, b2, b3, b4, b5, b6, b7⟩, f0, f1, f2, f3, f4, f5, f6, f7⟩ := Parse.cells8' HX1.out
  have bl := lt_of_block HX1.out
  go_wp2_with (fail)
  refine (H2.out _ (HB.out _ HR.out) HA.out).mono ?_
  rintro e w2 h2
  obtain rfl := h2.1
  have HP := Lib.hid (HP3.out w2 h2.2.1); have HR2 := Lib.hid (HR.out.trans h2.2.2)
  clear h2 b0 b1 b2 b3 b4 b5 b6 b7 f0 f1 f2 f3 f4 f5 f6 f7 bl
  go_wp2_with (fail)
  refine HP.out.mono ?_
  rintro e w3 h3
  have H3 := Lib.hid ((h3.after (HR2.out.alloc _)).cast (by simp : _ = ss ++ wOpen :: (twoW (wordsK t.ks) 0 wComma 0 ++ [wShut])))
  obtain rfl := h3.1
  clear h3
  go_wp2_with (fail)
  go_end0
  exact H3.out
end Show
end Go.Proofs.YtkcadkjpneoobaaGreatDoor
