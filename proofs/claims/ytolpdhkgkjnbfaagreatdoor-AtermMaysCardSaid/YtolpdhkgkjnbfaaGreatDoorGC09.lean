/-May a term with regions be: mathematics. The program's way through all nodes of terms with regions: what may be turned, and what is asked of its closure. (Written by wip/tools/atfold.py.) Terms with regions, without these: mathematics. What can be read in one world and in another; a world with some blocks out of sight. The walk of the document's row of all nodes: the loop. Rows of terms that a call made, read. A term that is made of a term with regions: what memory holds on the way. (Written by wip/tools/aterase.py.) -/
import Derived.Test.YtolpdhkgkjnbfaaGreatDoorGC08
import Derived.Deep.WholeRow
import Derived.Test.YtolpdhkgkjnbfaaGreatDoorGC06
import Derived.Deep.QuietTactic
import Derived.BigQuiet
import Derived.Deep.RegionLaw
import Derived.Deep.AppendLies
namespace Go.Proofs.YtolpdhkgkjnbfaaGreatDoor
open Go.RowKit
set_option linter.unusedVariables false
set_option linter.unusedSimpArgs false
namespace Aterm
open Effect (At AtOk AtsAt Rd RdI ofA)
open Words (nameB exnB)

/-- A head of a kind that layer 4 knows, of just these fields and kids. -/
def likeK (k : Int) : Int := if k = 17 then 4 else if k = 18 then 2 else k
def likeH (h : Term.Hd) : Term.Hd := { h with k := likeK h.k }
def headOk (h : Term.Hd) (n : Nat) : Bool := Term.nodeB (likeH h) n
def rhoOk (h : Hd) : Bool := if h.h.k = 3 ∨ h.h.k = 6 ∨ h.h.k = 11 ∨ h.h.k = 13 ∨ h.h.k = 18 then decide (0 ≤ h.rho) else if h.h.k = 17 then decide (1 ≤ h.rho) else decide (h.rho = 0)
def rhosOk (h : Hd) : Bool := if h.h.k = 13 then !metO [] h.rhos && decide (∀ x ∈ h.rhos, 1 ≤ x) else if h.h.k = 18 then decide (∀ x ∈ h.rhos, 0 ≤ x) else decide (h.rhos.length = 0)
def effK (k : Int) : Bool := decide (k = 11 ∨ k = 13 ∨ k = 18)
def typK (k : Int) : Bool := decide (k = 11 ∨ k = 13 ∨ k = 15)
def effOk (h : Hd) : Bool := if effK h.h.k = true then decide (h.e = ofA h.e) else decide (h.e.length = 0)
def typOk (h : Hd) : Bool := if typK h.h.k = true then Rt.mayT h.ty else plainB h.ty
def resOk (h : Hd) : Bool := if h.h.k = 13 then Rt.mayT h.re else plainB h.re
/-- May a node alone be, of so many kids? -/
def nodeB (h : Hd) (n : Nat) : Bool := headOk h.h n && rhoOk h && rhosOk h && effOk h && typOk h && resOk h
/-- May a term be? -/
def mayT (t : AT) : Bool := decide (wt t ≤ 40000) && allT nodeB t

theorem kids_le {k : Int} : Term.kidsN k ≤ 3 := by unfold Term.kidsN; repeat' split; all_goals omega
theorem head_many {h : Term.Hd} {n : Nat} (hn : 3 < n) : headOk h n = false := by
  unfold headOk
  exact Term.nodeB_no (fun hh => by have := kids_le (k := (likeH h).k); have := hh.1; omega)

/-! ### All nodes, as far as they hold -/
mutual
def foT {σ : Type} (B : σ → AT → Bool) (S : σ → AT → σ) : AT → σ → Bool × σ
  | .node h l, s => if B s (.node h l) = true then foK B S l (S s (.node h l)) else (false, S s (.node h l))
def foK {σ : Type} (B : σ → AT → Bool) (S : σ → AT → σ) : List AT → σ → Bool × σ
  | [], s => (true, s)
  | t :: ts, s => if (foT B S t s).1 = true then foK B S ts (foT B S t s).2 else (false, (foT B S t s).2)
end
section
variable {σ : Type} (B : σ → AT → Bool) (S : σ → AT → σ)
theorem foT_eq (t : AT) (s : σ) : foT B S t s = if B s t = true then foK B S t.ks (S s t) else (false, S s t) := by cases t; unfold foT; rfl
theorem foK_nil (s : σ) : foK B S [] s = (true, s) := by unfold foK; rfl
theorem foK_cons (t : AT) (ts : List AT) (s : σ) : foK B S (t :: ts) s = if (foT B S t s).1 = true then foK B S ts (foT B S t s).2 else (false, (foT B S t s).2) := by conv => lhs; unfold foK
theorem foK_no {ts : List AT} {j : Nat} {u : σ} (hj : j < ts.length) (h : B u (tget ts j) = false) : foK B S (ts.drop j) u = (false, S u (tget ts j)) := by
  rw [drop_tget ts j hj, foK_cons, foT_eq]
  simp [h]
theorem foK_kno {ts : List AT} {j : Nat} {u : σ} (hj : j < ts.length) (h : B u (tget ts j) = true) (hk : (foK B S (tget ts j).ks (S u (tget ts j))).1 = false) : foK B S (ts.drop j) u = (false, (foK B S (tget ts j).ks (S u (tget ts j))).2) := by
  rw [drop_tget ts j hj, foK_cons, foT_eq, if_pos h, if_neg (by rw [hk]; exact Bool.false_ne_true)]
theorem foK_yes {ts : List AT} {j : Nat} {u : σ} (hj : j < ts.length) (h : B u (tget ts j) = true) (hk : (foK B S (tget ts j).ks (S u (tget ts j))).1 = true) : foK B S (ts.drop j) u = foK B S (ts.drop (j + 1)) (foK B S (tget ts j).ks (S u (tget ts j))).2 := by
  rw [drop_tget ts j hj, foK_cons, foT_eq, if_pos h, if_pos hk]
/-- Along the list of nodes. -/
def foL : List AT → σ → Bool × σ
  | [], s => (true, s)
  | t :: ts, s => if B s t = true then foL ts (S s t) else (false, S s t)
theorem foL_append (l m : List AT) (s : σ) : foL B S (l ++ m) s = if (foL B S l s).1 = true then foL B S m (foL B S l s).2 else foL B S l s := by
  induction l generalizing s with
  | nil => simp [foL]
  | cons t ts ih =>
    rw [List.cons_append, foL, foL]
    by_cases hb : B s t = true
    · rw [if_pos hb, if_pos hb]; exact ih _
    · rw [if_neg hb, if_neg hb, if_neg Bool.false_ne_true]
theorem fo_flat : ∀ m : Nat, (∀ t s, wt t ≤ m → foT B S t s = foL B S (flatT t) s) ∧ (∀ ts s, wts ts ≤ m → foK B S ts s = foL B S (flatK ts) s) := by
  intro m
  induction m with
  | zero =>
    refine ⟨fun t s h => by have := wt_pos t; omega, fun ts s h => ?_⟩
    cases ts with
    | nil => rw [flatK_nil, foK_nil]; rfl
    | cons t ts => rw [wts_cons] at h; have := wt_pos t; omega
  | succ m ih =>
    have hT : ∀ t s, wt t ≤ m + 1 → foT B S t s = foL B S (flatT t) s := by
      intro t s h
      have hk := wt_ks t
      rw [flatT_eq, foT_eq, foL]
      split
      · exact ih.2 t.ks _ (by omega)
      · rfl
    refine ⟨hT, fun ts => ?_⟩
    induction ts with
    | nil => intro s _; rw [flatK_nil, foK_nil]; rfl
    | cons t ts ihs =>
      intro s h
      rw [wts_cons] at h
      rw [flatK_cons, foK_cons, foL_append, ← hT t s (by omega)]
      split
      · exact ihs _ (by omega)
      · rename_i hh
        have : (foT B S t s).1 = false := by simpa using hh
        rw [← this]
theorem foT_flat (t : AT) (s : σ) : foT B S t s = foL B S (flatT t) s := (fo_flat B S (wt t)).1 t s (Nat.le_refl _)
theorem foK_flat (ts : List AT) (s : σ) : foK B S ts s = foL B S (flatK ts) s := (fo_flat B S (wts ts)).2 ts s (Nat.le_refl _)
end
/-- Of what holds always. -/
theorem foL_true {σ : Type} (S : σ → AT → σ) : ∀ (l : List AT) (s : σ), foL (fun _ _ => true) S l s = (true, l.foldl S s)
  | [], s => rfl
  | t :: ts, s => by rw [foL, if_pos rfl, foL_true S ts, List.foldl_cons]

/-! ### May -/
def mayB (s : Int) (t : AT) : Bool := decide (0 ≤ s - 1) && nodeB t.h t.ks.length
def mayS (s : Int) (_ : AT) : Int := s - 1
theorem foL_may : ∀ (l : List AT) (s : Int), 0 ≤ s → (foL mayB mayS l s).1 = (decide ((l.length : Int) ≤ s) && l.all fun t => nodeB t.h t.ks.length)
  | [], s, hs => by rw [foL]; simp; exact hs
  | t :: ts, s, hs => by
    rw [foL]
    by_cases h0 : 0 ≤ s - 1
    · have hb : mayB s t = nodeB t.h t.ks.length := by unfold mayB; rw [decide_eq_true h0, Bool.true_and]
      cases hn : nodeB t.h t.ks.length
      · rw [hb, hn, if_neg Bool.false_ne_true]
        simp [hn]
      · rw [hb, hn, if_pos rfl, foL_may ts (mayS s t) h0, List.all_cons, hn, Bool.true_and, List.length_cons]
        congr 1
        rw [decide_eq_decide]
        unfold mayS
        omega
    · have hb : mayB s t = false := by unfold mayB; rw [decide_eq_false h0, Bool.false_and]
      rw [hb, if_neg Bool.false_ne_true, decide_eq_false (by rw [List.length_cons]; omega), Bool.false_and]
section
variable (B : Hd → Nat → Bool)
theorem all_flat : ∀ m : Nat, (∀ t, wt t ≤ m → allT B t = (flatT t).all fun t => B t.h t.ks.length) ∧ (∀ ts, wts ts ≤ m → allK B ts = (flatK ts).all fun t => B t.h t.ks.length) := by
  intro m
  induction m with
  | zero =>
    refine ⟨fun t h => by have := wt_pos t; omega, fun ts h => ?_⟩
    cases ts with
    | nil => rw [flatK_nil, allK_nil]; rfl
    | cons t ts => rw [wts_cons] at h; have := wt_pos t; omega
  | succ m ih =>
    have hT : ∀ t, wt t ≤ m + 1 → allT B t = (flatT t).all fun t => B t.h t.ks.length := by
      intro t h
      have hk := wt_ks t
      rw [allT_eq, flatT_eq, List.all_cons, ih.2 t.ks (by omega)]
    refine ⟨hT, fun ts => ?_⟩
    induction ts with
    | nil => intro _; rw [flatK_nil, allK_nil]; rfl
    | cons t ts ihs =>
      intro h
      rw [wts_cons] at h
      rw [allK_cons, flatK_cons, List.all_append, hT t (by omega), ihs (by omega)]
theorem allT_flat (t : AT) : allT B t = (flatT t).all fun t => B t.h t.ks.length := (all_flat B (wt t)).1 t (Nat.le_refl _)
end
theorem fo_may (t : AT) : (foT mayB mayS t 40000).1 = mayT t := by
  rw [foT_flat, foL_may _ _ (by omega), flatT_len, ← allT_flat]
  unfold mayT
  congr 1
  rw [decide_eq_decide]
  omega

/-! ### Apart -/
/-- What is met behind a node's own, up to the first one that was met. -/
def metI : List Int → List Int → List Int
  | met, [] => met
  | met, x :: xs => if met.contains x = true then met else metI (met ++ [x]) xs
theorem metI_no : ∀ (xs met : List Int), metO met xs = false → metI met xs = met ++ xs
  | [], met, _ => by rw [metI, List.append_nil]
  | x :: xs, met, h => by
    rw [metO, Bool.or_eq_false_iff] at h
    rw [metI, if_neg (by rw [h.1]; exact Bool.false_ne_true), metI_no xs _ h.2, List.append_assoc]; rfl
/-- What is met, and where one was met again. -/
def apS (s : List Int × Option Int) (t : AT) : List Int × Option Int := (metI s.1 (ownH t.h), if metO s.1 (ownH t.h) = true then some t.h.h.pl else s.2)
def apB (s : List Int × Option Int) (t : AT) : Bool := !metO s.1 (ownH t.h)
theorem foL_apart : ∀ (l : List AT) (met : List Int), (foL apB apS l (met, none)).1 = (apartL l met).isNone ∧ (foL apB apS l (met, none)).2.2 = apartL l met
  | [], met => ⟨rfl, rfl⟩
  | t :: ts, met => by
    rw [foL, apartL]
    by_cases hm : metO met (ownH t.h) = true
    · have hb : apB (met, none) t = false := by unfold apB; simp only; rw [hm]; rfl
      have hs : (apS (met, none) t).2 = some t.h.h.pl := by unfold apS; simp only; rw [if_pos hm]
      rw [hb, if_neg Bool.false_ne_true, if_pos hm]
      exact ⟨rfl, hs⟩
    · have hm' : metO met (ownH t.h) = false := by simpa using hm
      have hb : apB (met, none) t = true := by unfold apB; simp only; rw [hm']; rfl
      have hs : apS (met, none) t = (met ++ ownH t.h, none) := by unfold apS; simp only; rw [if_neg hm, metI_no _ _ hm']
      rw [hb, if_pos rfl, if_neg hm, hs]
      exact foL_apart ts _
theorem fo_apart (t : AT) : (foT apB apS t ([], none)).1 = (apartT t).isNone ∧ (foT apB apS t ([], none)).2.2 = apartT t := by
  rw [foT_flat]
  exact foL_apart _ _
end Aterm
end Go.Proofs.YtolpdhkgkjnbfaaGreatDoor
namespace Go.Proofs.YtolpdhkgkjnbfaaGreatDoor
open Go.RowKit
set_option linter.unusedVariables false
set_option linter.unusedSimpArgs false
namespace Aterm
open Rt (box_new box_at below_then)
open Effect (ret_bool ret_i64 lt_of_block heap_alloc_new)

/-- Only blocks of P may be turned. -/
structure Tch (P : Nat → Option Obj → Prop) (w w' : World) : Prop where
  os : w'.os = w.os
  tape : w'.tape = w.tape
  output : w'.output = w.output
  size : w.heap.size ≤ w'.heap.size
  block : ∀ k, k < w.heap.size → ¬ P k w.heap[k]? → w'.heap[k]? = w.heap[k]?
section
variable {P : Nat → Option Obj → Prop}
theorem Tch.refl (w : World) : Tch P w w := ⟨rfl, rfl, rfl, Nat.le_refl _, fun _ _ _ => rfl⟩
theorem Tch.trans {a b c : World} (h : Tch P a b) (k : Tch P b c) : Tch P a c :=
  ⟨k.os.trans h.os, k.tape.trans h.tape, k.output.trans h.output, Nat.le_trans h.size k.size, fun i hi hn => by
    have h1 := h.block i hi hn
    exact (k.block i (Nat.lt_of_lt_of_le hi h.size) (by rw [h1]; exact hn)).trans h1⟩
theorem Tch.of_below {w w' : World} (hb : Below w.heap.size w w') : Tch P w w' := ⟨hb.os, hb.tape, hb.output, hb.size, fun i hi _ => hb.block i hi⟩
theorem Tch.alloc {a w : World} (h : Tch P a w) (O : Obj) : Tch P a (w.alloc O) := h.trans (Tch.of_below (box_new O))
theorem Tch.drew {a w : World} (h : Tch P a w) : Tch P a w.drew := ⟨h.os, h.tape, h.output, h.size, h.block⟩
theorem Tch.below {w w' a : World} {B : Nat} (h : Tch P w w') (hP : ∀ k O, k < B → ¬ P k O) (ha : Below B a w) (hB : B ≤ a.heap.size) : Below B a w' :=
  ⟨h.os.trans ha.os, h.tape.trans ha.tape, h.output.trans ha.output, Nat.le_trans ha.size h.size, fun k hk => (h.block k (by have := ha.size; omega) (hP k _ hk)).trans (ha.block k hk)⟩
theorem Tch.range {w w' : World} (h : Tch P w w') {b o : Nat} {cs : List Value} (hr : w.rangeAt b o cs) (hn : ¬ P b w.heap[b]?) : w'.rangeAt b o cs := fun j v hv => by
  have h1 := hr j v hv
  have hlt : b < w.heap.size := World.block_lt_of_cell? w ⟨b, o + j, none⟩ h1
  rw [World.cell?_of_block (w := w) (a := ⟨b, o + j, none⟩) (h.block b hlt hn)]
  exact h1
theorem Tch.box {w w' : World} (h : Tch P w w') {N : Nat} {hd : Hd} {v : V} {l : Nat} (k : Box w N hd v l) (hn : ¬ P N w.heap[N]?) : Box w' N hd v l := by
  have hlt : N < w.heap.size := World.block_lt_of_cell? w _ k.1
  have hb := h.block N hlt hn
  unfold Box at *
  simp only [World.cell?_of_block (w := w) (w' := w') (a := ⟨N, _, none⟩) hb]
  exact k
end
/-- What is asked of a state's reading in memory. -/
structure Goes {σ : Type} (w0 : World) (P : Nat → Option Obj → Prop) (I : Nat → σ → World → Prop) : Prop where
  low : ∀ k O, k < w0.heap.size → ¬ P k O
  new : ∀ r s W, I r s W → ∀ cs fz, ¬ P W.heap.size (some (.cells cs 31 fz))
  keep : ∀ r s W W', I r s W → Below W.heap.size W W' → I r s W'
  less : ∀ r r' s W, I r s W → r' ≤ r → I r' s W
/-- How such a call ends. -/
def FoEnd {σ : Type} (P : Nat → Option Obj → Prop) (I : σ → World → Prop) (r : Bool × σ) (w : World) (e : Ending) (w' : World) : Prop := e = .returned (.bool r.1) ∧ I r.2 w' ∧ Tch P w w'
/-- What is asked of the closure. -/
def Steps {σ : Type} (c : Nat) (env : List Value) (B : σ → AT → Bool) (S : σ → AT → σ) (C : Hd → Nat → Bool) (w0 : World) (P : Nat → Option Obj → Prop) (I : Nat → σ → World → Prop) : Prop :=
  ∀ r s W t h v l, I (r + 1) s W → AtIs w0 h v l t → C h l = true → Below w0.heap.size w0 W → Calls Tryz.prog c (Value.agg #[.int .u8 h.h.k, .int .u8 h.h.op, .int .i64 h.h.pl, .int .i64 h.h.n, .string h.h.name, .string h.h.arg, .string h.h.exn, .int .i64 h.rho, .slice v.ra h.rhos.length v.rc, .slice v.ea h.e.length v.ec, .int .u8 h.ty.h.k, .int .i64 h.ty.h.r, .slice v.tea h.ty.h.e.length v.tec, .slice v.tka h.ty.ks.length v.tkc, .int .u8 h.re.h.k, .int .i64 h.re.h.r, .slice v.sea h.re.h.e.length v.sec, .slice v.ska h.re.ks.length v.skc, .slice v.ka l v.kc] :: env).toArray W (FoEnd P (I r) (B s t, S s t) W)
/-- A row of terms: its cells may lie in newer memory. -/
def RowS (w0 W : World) (p : Option Addr) (ts : List AT) : Prop := ∀ i, i < ts.length → ∃ b o v, p = some ⟨b, o, none⟩ ∧ AtIs w0 (tget ts i).h v (tget ts i).ks.length (tget ts i) ∧ W.rangeAt b (o + i * 19) (acells (tget ts i).h v (tget ts i).ks.length)
theorem rowS_kids {w0 W : World} {p : Option Addr} {ts : List AT} (h : Kids w0 p ts) (hb : Below w0.heap.size w0 W) : RowS w0 W p ts := fun i hi => by
  obtain ⟨b, o, v, h1, h2, h3⟩ := h.load i hi
  exact ⟨b, o, v, h1, h2, range_below h3 hb⟩
theorem wts_drop' (ts : List AT) (j : Nat) (hj : j < ts.length) : wts (ts.drop j) = wts (tget ts j).ks + 1 + wts (ts.drop (j + 1)) := by
  rw [wts_drop ts j hj, wt_ks]
/-- A term that is loaded behind a guard that is met. -/
theorem at_load_g {ops : Array Oper} {rest : List Oper} {op : Oper} {a : Act} {w : World} {Q : Exit → Act → World → Prop} (hw : Region.wanted op (yielded ops a.tmps) = true) (x : Operand) (ho : op.op = .load 31 x)
    (b o : Nat) (hx : a.eval x = .pointer (some ⟨b, o, none⟩)) {h : Hd} {v : V} {l : Nat} (hr : w.rangeAt b o (acells h v l))
    (k : wpList Tryz.prog ops Q rest (a.put op.dst (.agg #[.int .u8 h.h.k, .int .u8 h.h.op, .int .i64 h.h.pl, .int .i64 h.h.n, .string h.h.name, .string h.h.arg, .string h.h.exn, .int .i64 h.rho, .slice v.ra h.rhos.length v.rc, .slice v.ea h.e.length v.ec, .int .u8 h.ty.h.k, .int .i64 h.ty.h.r, .slice v.tea h.ty.h.e.length v.tec, .slice v.tka h.ty.ks.length v.tkc, .int .u8 h.re.h.k, .int .i64 h.re.h.r, .slice v.sea h.re.h.e.length v.sec, .slice v.ska h.re.ks.length v.skc, .slice v.ka l v.kc])) w) : wpList Tryz.prog ops Q (op :: rest) a w := by
  rw [wpList, if_pos hw]
  exact .inl (wp_load_mid 31 x ho b o hx (acells h v l) _ hr Tryz.underlying31 rfl atInfo k)
/-- A term that is laid into a block that was made last. -/
theorem at_store {ops : Array Oper} {rest : List Oper} {op : Oper} {a : Act} {w0 : World} {Q : Exit → Act → World → Prop} (hgd : op.guard = none) (x y : Operand) (ho : op.op = .store 31 x y) (c : Array Value) (hc : c.size = 19)
    (h : Hd) (v : V) (l : Nat) (hx : a.eval x = .pointer (some ⟨w0.heap.size, 0, none⟩)) (hy : a.eval y = .agg #[.int .u8 h.h.k, .int .u8 h.h.op, .int .i64 h.h.pl, .int .i64 h.h.n, .string h.h.name, .string h.h.arg, .string h.h.exn, .int .i64 h.rho, .slice v.ra h.rhos.length v.rc, .slice v.ea h.e.length v.ec, .int .u8 h.ty.h.k, .int .i64 h.ty.h.r, .slice v.tea h.ty.h.e.length v.tec, .slice v.tka h.ty.ks.length v.tkc, .int .u8 h.re.h.k, .int .i64 h.re.h.r, .slice v.sea h.re.h.e.length v.sec, .slice v.ska h.re.ks.length v.skc, .slice v.ka l v.kc])
    (k : wpList Tryz.prog ops Q rest (a.put op.dst undef) (w0.alloc (.cells #[.int .u8 h.h.k, .int .u8 h.h.op, .int .i64 h.h.pl, .int .i64 h.h.n, .string h.h.name, .string h.h.arg, .string h.h.exn, .int .i64 h.rho, .slice v.ra h.rhos.length v.rc, .slice v.ea h.e.length v.ec, .int .u8 h.ty.h.k, .int .i64 h.ty.h.r, .slice v.tea h.ty.h.e.length v.tec, .slice v.tka h.ty.ks.length v.tkc, .int .u8 h.re.h.k, .int .i64 h.re.h.r, .slice v.sea h.re.h.e.length v.sec, .slice v.ska h.re.ks.length v.skc, .slice v.ka l v.kc] 31))) : wpList Tryz.prog ops Q (op :: rest) a (w0.alloc (.cells c 31)) :=
  wpList_plain hgd fun _ hK => by
    have hst := run_storeVar_new (P := Tryz.prog) w0 31 c #[.int .u8 h.h.k, .int .u8 h.h.op, .int .i64 h.h.pl, .int .i64 h.h.n, .string h.h.name, .string h.h.arg, .string h.h.exn, .int .i64 h.rho, .slice v.ra h.rhos.length v.rc, .slice v.ea h.e.length v.ec, .int .u8 h.ty.h.k, .int .i64 h.ty.h.r, .slice v.tea h.ty.h.e.length v.tec, .slice v.tka h.ty.ks.length v.tkc, .int .u8 h.re.h.k, .int .i64 h.re.h.r, .slice v.sea h.re.h.e.length v.sec, .slice v.ska h.re.ks.length v.skc, .slice v.ka l v.kc] atInfo hc (all_oneCell_toArray (cs := acells h v l) (fun u hu => by
      simp [acells] at hu
      rcases hu with rfl | rfl | rfl | rfl | rfl | rfl | rfl | rfl | rfl | rfl | rfl | rfl | rfl | rfl | rfl | rfl | rfl | rfl | rfl <;> rfl))
    unfold Oper.wp execOp
    simp only [ho, hx, hy, Instr.storeAt, Instr.sureAddr, Sem.run_bind, Sem.run_pure, Result.andThen_ok, hst]
    exact hK _ _ k
end Aterm
end Go.Proofs.YtolpdhkgkjnbfaaGreatDoor
namespace Go.Proofs.YtolpdhkgkjnbfaaGreatDoor
open Go.RowKit
set_option linter.unusedVariables false
set_option linter.unusedSimpArgs false
namespace Aterm
theorem wts_ge : ∀ ts : List AT, ts.length ≤ wts ts
  | [] => by simp
  | t :: ts => by rw [wts_cons, List.length_cons]; have := wt_pos t; have := wts_ge ts; omega
/-! ### Without regions -/
/-- A head without regions. -/
def bareH (h : Hd) : Term.Hd := if h.h.k = 18 then { h.h with k := 2 } else h.h
mutual
def eraseT : AT → Term.Tm
  | .node h l => if h.h.k = 17 ∧ l ≠ [] then (eraseK l).headD (.node hd0.h []) else .node (bareH h) (eraseK l)
def eraseK : List AT → List Term.Tm
  | [] => []
  | t :: ts => eraseT t :: eraseK ts
end
theorem eraseT_eq (t : AT) : eraseT t = if t.h.h.k = 17 ∧ t.ks ≠ [] then (eraseK t.ks).headD (.node hd0.h []) else .node (bareH t.h) (eraseK t.ks) := by
  cases t
  conv => lhs; unfold eraseT
  rfl
theorem eraseK_nil : eraseK [] = [] := by unfold eraseK; rfl
theorem eraseK_cons (t : AT) (ts : List AT) : eraseK (t :: ts) = eraseT t :: eraseK ts := by conv => lhs; unfold eraseK
theorem eraseK_map : ∀ ts : List AT, eraseK ts = ts.map eraseT
  | [] => eraseK_nil
  | t :: ts => by rw [eraseK_cons, eraseK_map ts]; rfl
theorem eraseT_reg {t u : AT} {us : List AT} (hk : t.h.h.k = 17) (hs : t.ks = u :: us) : eraseT t = eraseT u := by
  rw [eraseT_eq, if_pos ⟨hk, by rw [hs]; simp⟩, hs, eraseK_cons]; rfl
theorem eraseT_no {t : AT} (hk : ¬ (t.h.h.k = 17 ∧ t.ks ≠ [])) : eraseT t = .node (bareH t.h) (eraseK t.ks) := by rw [eraseT_eq, if_neg hk]
/-- How many aren't KRegion. -/
def plainN (ts : List AT) : Nat := (ts.filter fun t => decide (t.h.h.k ≠ 17)).length

end Aterm
end Go.Proofs.YtolpdhkgkjnbfaaGreatDoor
namespace Go.Proofs.YtolpdhkgkjnbfaaGreatDoor
open Go.RowKit
set_option linter.unusedVariables false
namespace Term

/-- What can be read in the one world reads so in the other. -/
def Reads (w0 W : World) : Prop := ∀ a v, w0.cell? a = some v → W.cell? a = some v
theorem Reads.of_below {w0 W : World} (h : Below w0.heap.size w0 W) : Reads w0 W := fun a v hv => (h.cell (World.block_lt_of_cell? w0 _ hv)).trans hv
theorem Reads.trans {a b c : World} (h : Reads a b) (k : Reads b c) : Reads a c := fun x v hv => k x v (h x v hv)
/-- The world, but for the blocks that aren't looked at. -/
def veil (P : Nat → Bool) (W : World) : World := { W with heap := W.heap.mapIdx fun i o => if P i = true then o else .cells #[] 0 }
theorem veil_at {P : Nat → Bool} {W : World} {b : Nat} (h : P b = true) : (veil P W).heap[b]? = W.heap[b]? := by
  unfold veil
  simp only [Array.getElem?_mapIdx]
  cases W.heap[b]? with
  | none => rfl
  | some o => simp [h]
theorem veil_seen {P : Nat → Bool} {W : World} {a : Addr} {v : Value} (h : (veil P W).cell? a = some v) : P a.block = true ∧ W.cell? a = some v := by
  cases hp : P a.block
  · unfold World.cell? veil at h
    simp only [Array.getElem?_mapIdx] at h
    cases ho : W.heap[a.block]? with
    | none => rw [ho] at h; simp at h
    | some o => rw [ho] at h; simp [hp] at h
  · exact ⟨rfl, by rw [← World.cell?_of_block (veil_at hp)]; exact h⟩
theorem veil_reads (P : Nat → Bool) (W : World) : Reads (veil P W) W := fun a v h => (veil_seen h).2
/-- From one to the other: what is seen of the one stands in the other, and is seen there. -/
theorem veil_to {P P' : Nat → Bool} {W W' : World} (h : ∀ b, b < W.heap.size → P b = true → P' b = true ∧ W'.heap[b]? = W.heap[b]?) : Reads (veil P W) (veil P' W') := fun a v hv => by
  obtain ⟨hp, hw⟩ := veil_seen hv
  obtain ⟨h1, h2⟩ := h a.block (World.block_lt_of_cell? W _ hw) hp
  rw [World.cell?_of_block (veil_at h1), World.cell?_of_block h2]
  exact hw
theorem Kids.reads' {w W : World} {p : Option Addr} {ts : List Tm} (h : Kids w p ts) (hb : Reads w W) : Kids W p ts := by
  induction h with
  | nokids p => exact .nokids p
  | atkids b o ts q c hh hc hl hk ih => exact .atkids b o ts q c hh (fun i hi j v hv => hb _ _ (hc i hi j v hv)) hl (fun i hi => ih i hi)
theorem TmIs.reads' {w W : World} {h : Hd} {p : Option Addr} {l c : Nat} {t : Tm} (k : TmIs w h p l c t) (hb : Reads w W) : TmIs W h p l c t := ⟨k.head, k.len, k.ok, k.cap, k.kids.reads' hb⟩
theorem Flat.reads {w W : World} (hb : Reads w W) : ∀ {ts : List Tm} {xs : List Value}, Flat w xs ts → Flat W xs ts
  | [], xs, h => h
  | t :: ts, xs, ⟨q, c, zs, he, hT, h⟩ => ⟨q, c, zs, he, hT.reads' hb, h.reads hb⟩
/-- A row of terms whose kids are there. -/
theorem kids_of_flat {W : World} {b : Nat} {xs : List Value} {ts : List Tm} (hc : ∀ j u, xs[j]? = some u → W.cell? ⟨b, j, none⟩ = some u) (hf : Flat W xs ts) : Kids W (some ⟨b, 0, none⟩) ts := by
  have each : ∀ i, ∃ r : Option Addr × Nat, i < ts.length → TmIs W (tget ts i).h r.1 (tget ts i).ks.length r.2 (tget ts i) ∧ ∀ j v, (tcells (tget ts i).h r.1 (tget ts i).ks.length r.2)[j]? = some v → xs[i * 8 + j]? = some v := by
    intro i
    by_cases hi : i < ts.length
    · obtain ⟨q, c, h1, h2⟩ := hf.get i hi
      exact ⟨(q, c), fun _ => ⟨h1, h2⟩⟩
    · exact ⟨(none, 0), fun h => absurd h hi⟩
  obtain ⟨R, hR⟩ := Classical.axiomOfChoice each
  refine .atkids b 0 ts (fun i => (R i).1) (fun i => (R i).2) (fun i hi => (hR i hi).1.ok) (fun i hi j v hv => ?_) (fun i hi => (hR i hi).1.cap) (fun i hi => (hR i hi).1.kids)
  rw [Nat.zero_add]
  exact hc _ _ ((hR i hi).2 j v hv)
end Term
end Go.Proofs.YtolpdhkgkjnbfaaGreatDoor
namespace Go.Proofs.YtolpdhkgkjnbfaaGreatDoor
open Go.RowKit
set_option linter.unusedVariables false
namespace Term

theorem own_below {w W : World} {B e size n : Nat} {v : Value} {xs : List Value} (h : w.ownsRow B e size v n xs) (hb : Below w.heap.size w W) : W.ownsRow B e size v n xs :=
  h.kept (row := none) ⟨hb.os, hb.tape, hb.output, hb.size, fun q hq _ => hb.block q hq⟩ (by cases v.ownBlock <;> simp)

set_option maxRecDepth 10000 in
set_option maxHeartbeats 6400000 in
theorem refAll_walk : ∀ (m : Nat) (t : Tm) (h : Hd) (p : Option Addr) (l c : Nat) (w0 w : World), wt t ≤ m → wt t ≤ 1000000 → TmIs w0 h p l c t → Below w0.heap.size w0 w →
    Calls Tryz.prog 14 #[.agg #[.int .u8 h.k, .int .u8 h.op, .int .i64 h.pl, .int .i64 h.n, .string h.name, .string h.arg, .string h.exn, .slice p l c]] w fun e w' =>
      ∃ g c' xs, e = .returned (.slice (some ⟨g, 0, none⟩) (wt t) c') ∧ w'.ownsRow w.heap.size 38 8 (.slice (some ⟨g, 0, none⟩) (wt t) c') (wt t) xs ∧ Flat w0 xs (flatT t) ∧ Below w.heap.size w w' := by
  intro m
  induction m with
  | zero => intro t h p l c w0 w hm; have := wt_pos t; omega
  | succ m ih =>
    intro t h p l c w0 w hm hsz hT hb0
    obtain ⟨i0, hi, hz0, hz1, hz2⟩ := info_parts infoTerm
    have HI := Lib.hid hi; have HZ0 := Lib.hid hz0; have HZ1 := Lib.hid hz1; have HZ2 := Lib.hid hz2
    have hone := Flat.one hT
    have hhd := hT.head
    obtain ⟨k, op, pl, nn, nm, ar, ex⟩ := h
    have hlc : l ≤ 9223372036854775807 := by have := hT.cap; unfold maxLen at this; omega
    have hbox : ∀ O : Obj, Below w.heap.size w (w.alloc O) := fun O => (Below.refl _ _).alloc (Nat.le_refl _) _
    have hrow : ∀ w1 : World, w1.heap.size = w.heap.size + 1 → (w1.alloc (.cells #[.int .u8 k, .int .u8 op, .int .i64 pl, .int .i64 nn, .string nm, .string ar, .string ex, .slice p l c] 38)).ownsRow (w.heap.size + 1) 38 8 (.slice (some ⟨w.heap.size + 1, 0, none⟩) 1 1) 1 (tcells ⟨k, op, pl, nn, nm, ar, ex⟩ p l c) := fun w1 h1 => by
      have := World.ownsRow_lit (base := w.heap.size + 1) (e := 38) (size := 8) w1 #[.int .u8 k, .int .u8 op, .int .i64 pl, .int .i64 nn, .string nm, .string ar, .string ex, .slice p l c] 1 (by omega) (by unfold maxLen; omega) rfl
      rw [h1] at this
      exact this
    have HBOX := Lib.hid hbox; have IH := Lib.hid ih; have HT := Lib.hid hT; have HM := Lib.hid hm; have HSZ := Lib.hid hsz; have HB0 := Lib.hid hb0; have HROW := Lib.hid hrow; have HONE := Lib.hid hone; have HHD := Lib.hid hhd
    clear ih hT hm hbox hsz hb0 hrow hi hz0 hz1 hz2 hone hhd
    go_enter Tryz.func14, Tryz.ntmps14
    go_wp2_with (fail)
    go_loopw [3, 10] (fun v i wr => ∃ (j : Nat) (xs : List Value), j ≤ l ∧ i = .int .i64 j ∧ wr.ownsRow (w.heap.size + 1) 38 8 v (1 + wts (t.ks.take j)) xs ∧ Flat w0 xs (t :: flatK (t.ks.take j)) ∧
      Below (w.alloc (.cells #[.int .u8 k, .int .u8 op, .int .i64 pl, .int .i64 nn, .string nm, .string ar, .string ex, .slice p l c] 38)).heap.size (w.alloc (.cells #[.int .u8 k, .int .u8 op, .int .i64 pl, .int .i64 nn, .string nm, .string ar, .string ex, .slice p l c] 38)) wr) (fun _ i _ => l - (intOf i).toNat)
    case atStart =>
      refine ⟨0, _, Nat.zero_le _, rfl, HROW.out _ (by simp), ?_, (Below.refl _ _).alloc (Nat.le_refl _) _⟩
      rw [List.take_zero, flatK_nil]
      exact HONE.out
    case round =>
      obtain ⟨j, xs, hj, rfl, hown, hfl, hw⟩ := hrel
      have HW := Lib.hid hw; have HOWN := Lib.hid hown; have HFL := Lib.hid hfl
      have b7 := boxAt hw 7 rfl
      clear hw hown hfl
      have HWW := Lib.hid ((HBOX.out _).trans (HW.out.mono (HBOX.out _).size))
      by_cases hlt : j < l
      · have hjk : j < t.ks.length := by rw [HT.out.len]; exact hlt
        have hst := flatK_take t.ks j hjk
        have hsw := wts_take t.ks j hjk
        have hB0r := HB0.out.trans (HWW.out.mono HB0.out.size)
        obtain ⟨b, o, q, c', rfl, hkid0, c0, c1, c2, c3, c4, c5, c6, c7⟩ := HT.out.kids.get j hjk
        have hkid := hkid0
        have hkb : b < w0.heap.size := World.block_lt_of_cell? w0 _ c0
        have e0 := (hB0r.cell (p := ⟨b, o + j * 8, none⟩) hkb).trans c0
        have e1 := (hB0r.cell (p := ⟨b, o + j * 8 + 1, none⟩) hkb).trans c1
        have e2 := (hB0r.cell (p := ⟨b, o + j * 8 + 2, none⟩) hkb).trans c2
        have e3 := (hB0r.cell (p := ⟨b, o + j * 8 + 3, none⟩) hkb).trans c3
        have e4 := (hB0r.cell (p := ⟨b, o + j * 8 + 4, none⟩) hkb).trans c4
        have e5 := (hB0r.cell (p := ⟨b, o + j * 8 + 5, none⟩) hkb).trans c5
        have e6 := (hB0r.cell (p := ⟨b, o + j * 8 + 6, none⟩) hkb).trans c6
        have e7 := (hB0r.cell (p := ⟨b, o + j * 8 + 7, none⟩) hkb).trans c7
        have hwk := wts_get hjk
        have hwt := wt_ks t
        have hwl := wts_take_le t.ks (j + 1)
        have HST := Lib.hid hst; have HK := Lib.hid hkid; have HSW := Lib.hid hsw; have HWL := Lib.hid hwl; have HB0R := Lib.hid hB0r
        have HWK := Lib.hid hwk; have HWT := Lib.hid hwt
        clear hst hkid hkid0 hwk hwt hjk hsw hwl hkb c0 c1 c2 c3 c4 c5 c6 c7 hB0r
        go_wp2_with (fail)
        refine (IH.out (tget t.ks j) _ q _ c' w0 _ (by have := HM.out; have := HWK.out; have := HWT.out; omega) (by have := HSZ.out; have := HWK.out; have := HWT.out; omega) HK.out HB0R.out).mono ?_
        rintro e w2 ⟨g2, c2, ys, rfl, hown2, hfl2, hb2⟩
        have HW2 := Lib.hid (HW.out.trans (hb2.mono HW.out.size))
        have HO2 := Lib.hid (own_below HOWN.out hb2)
        have HC2 := Lib.hid (hown2.cells (g := g2) rfl)
        have HL2 := Lib.hid hown2.1
        have HF2 := Lib.hid hfl2
        have HBS := Lib.hid HW2.out.size
        clear hb2 hown2 hfl2 b7 e0 e1 e2 e3 e4 e5 e6 e7
        obtain ⟨X, hX⟩ : ∃ X, X = wt (tget t.ks j) := ⟨_, rfl⟩
        obtain ⟨Y, hY⟩ : ∃ Y, Y = wts (t.ks.take j) := ⟨_, rfl⟩
        have hbound : 1 + Y + X ≤ 1000000 := by
          have h1 := HSW.out; have h2 := HWL.out; have h3 := HWT.out; have h4 := HSZ.out
          omega
        rw [← hX] at HL2 ⊢
        rw [← hY] at HO2
        have HX := Lib.hid hX; have HY := Lib.hid hY; have HBD := Lib.hid hbound
        clear hX hY hbound
        go_wp2_with (at_builtin; refine wpList_append_own _ rfl (.tmp 13) (.tmp 19) 36 rfl (w.heap.size + 1) 38 i0 (.agg #[.int .u8 0, .int .u8 0, .int .i64 0, .int .i64 0, .string ⟨#[]⟩, .string ⟨#[]⟩, .string ⟨#[]⟩, .slice none 0 0]) 8 96 Tryz.underlying36 HI.out HZ0.out HZ1.out HZ2.out rfl (by decide) _ _ _ rfl HO2.out ⟨g2, 0, none⟩ X c2 ys rfl HL2.out HC2.out (Flat.cells1 HF2.out) (by have := HBD.out; unfold maxLen; omega) (by have := HBD.out; omega) (by have := HBS.out; simp at this; omega) ?_; intro v3 w3 hown3 hgrow3 hnil3; have AFT := Lib.hid (HW2.out.grown hgrow3 HBS.out (fun q hq => by have := (HO2.out.lt q hq).1; simp; omega)); have HO3 := Lib.hid hown3; clear hown3 hgrow3 hnil3)
        go_roundw
        case rel =>
          refine ⟨j + 1, xs ++ ys, by omega, by go_num, ?_, ?_, AFT.out⟩
          · rw [HSW.out, ← HX.out, ← HY.out, show 1 + (Y + X) = 1 + Y + X from by omega]; exact HO3.out
          · rw [HST.out]; exact HFL.out.append HF2.out
        case measure => simp [intOf]; omega
      · obtain rfl : j = l := by omega
        have hall : t.ks.take j = t.ks := List.take_of_length_le (by rw [HT.out.len]; exact Nat.le_refl _)
        have ho := HOWN.out
        have hf := HFL.out
        rw [hall] at ho hf
        rw [← flatT_eq] at hf
        have hwt := wt_ks t
        rw [show 1 + wts t.ks = wt t from by omega] at ho
        obtain ⟨g, cap, hv⟩ : ∃ g cap, u3 = .slice (some ⟨g, 0, none⟩) (wt t) cap := by
          rcases ho.2 with ⟨_, h0⟩ | ⟨g, cap, _, hv, _⟩
          · have := wt_pos t; omega
          · exact ⟨g, cap, hv⟩
        subst hv
        have HO := Lib.hid ho; have HF := Lib.hid hf
        clear ho hf hall hwt
        go_wp2_with (fail)
        go_ret
        refine ⟨g, cap, xs, rfl, ?_, HF.out, HWW.out⟩
        exact ⟨HO.out.1, HO.out.2.imp id (fun ⟨g, cap, cur, a, b, r⟩ => ⟨g, cap, cur, a, by omega, r⟩)⟩
end Term
end Go.Proofs.YtolpdhkgkjnbfaaGreatDoor
namespace Go.Proofs.YtolpdhkgkjnbfaaGreatDoor
open Go.RowKit
set_option linter.unusedVariables false
namespace Term

theorem below_then {B : Nat} {a w1 w2 : World} (h : Below B a w1) (hb : Below w1.heap.size w1 w2) (hB : B ≤ w1.heap.size) : Below B a w2 := h.trans (hb.mono hB)
theorem own_slice {w : World} {base e size n : Nat} {v : Value} {xs : List Value} (h : w.ownsRow base e size v n xs) : ∃ a c, v = .slice a n c ∧ c ≤ 9223372036854775807 ∧ n ≤ c := by
  rcases h.2 with ⟨hv, h0⟩ | ⟨g, cap, _, hv, _, _, h1, h2, _⟩
  · subst h0; exact ⟨none, 0, hv, by omega, Nat.le_refl _⟩
  · unfold maxLen at h2; exact ⟨_, cap, hv, by omega, h1⟩
theorem row_cell {w : World} {base e size n c g : Nat} {xs : List Value} (h : w.ownsRow base e size (.slice (some ⟨g, 0, none⟩) n c) n xs) {j : Nat} {u : Value} (hu : xs[j]? = some u) : w.cell? ⟨g, j, none⟩ = some u := by
  have := h.cells (g := g) rfl j u hu
  rw [Addr.add_lit] at this
  simpa using this
end Term
end Go.Proofs.YtolpdhkgkjnbfaaGreatDoor
namespace Go.Proofs.YtolpdhkgkjnbfaaGreatDoor
open Go.RowKit
set_option linter.unusedVariables false
set_option linter.unusedSimpArgs false
namespace Aterm
open Effect (lt_of_block heap_alloc_new)
open Rt (box_new box_at below_then)
open Term (Tm TmIs Reads veil veil_to veil_at tcells)

def from_ (M : Nat) (i : Nat) : Bool := decide (M ≤ i)
/-- From block B on, but the row's own. -/
def seen (B : Nat) (v : Value) (i : Nat) : Bool := decide (B ≤ i ∧ v.ownBlock ≠ some i)
theorem seen_iff {B : Nat} {v : Value} {i : Nat} : seen B v i = true ↔ B ≤ i ∧ v.ownBlock ≠ some i := by unfold seen; exact decide_eq_true_iff
/-- A row of terms that grows: its cells, and its terms' kids, which lie in none of these. -/
def RowM (B : Nat) (v : Value) (ts : List Tm) (W : World) : Prop := ∃ xs, W.ownsRow B 38 8 v ts.length xs ∧ Term.Flat (veil (seen B v) W) xs ts
theorem RowM.nil (B : Nat) (W : World) : RowM B (.slice none 0 0) [] W := ⟨[], World.ownsRow_nil _ _ _ _, rfl⟩
theorem RowM.below {B : Nat} {v : Value} {ts : List Tm} {W W' : World} (h : RowM B v ts W) (hb : Below W.heap.size W W') : RowM B v ts W' := by
  obtain ⟨xs, h1, h2⟩ := h
  exact ⟨xs, own_below h1 hb, h2.reads (veil_to fun b hbl hp => ⟨hp, hb.block b hbl⟩)⟩
theorem own_cap {w : World} {base e size n : Nat} {v : Value} {xs : List Value} (h : w.ownsRow base e size v n xs) : ∃ a c, v = .slice a n c ∧ c ≤ maxLen ∧ n ≤ c := by
  rcases h.2 with ⟨hv, h0⟩ | ⟨g, cap, _, hv, _, _, h1, h2, _⟩
  · subst h0; exact ⟨none, 0, hv, by unfold maxLen; omega, Nat.le_refl _⟩
  · exact ⟨_, cap, hv, h2, h1⟩
/-- One term more. -/
theorem row_step {B M : Nat} {v v' : Value} {W W3 : World} {ts : List Tm} {xs : List Value} {t : Tm} {hd : Term.Hd} {q : Option Addr} {l c : Nat}
    (ho : W.ownsRow B 38 8 v ts.length xs) (hf : Term.Flat (veil (seen B v) W) xs ts) (hT : TmIs (veil (from_ M) W) hd q l c t) (hM : B ≤ M) (hg : ∀ g, v.ownBlock = some g → g < M)
    (ho3 : W3.ownsRow B 38 8 v' (ts.length + 1) (xs ++ tcells hd q l c)) (hgr : W.grownBy W3 v.ownBlock) (hat : v'.ownBlock = v.ownBlock ∨ v'.ownBlock = some W.heap.size) : RowM B v' (ts ++ [t]) W3 := by
  refine ⟨xs ++ tcells hd q l c, by rw [List.length_append]; exact ho3, ?_⟩
  have key : ∀ b, b < W.heap.size → B ≤ b → v.ownBlock ≠ some b → seen B v' b = true ∧ W3.heap[b]? = W.heap[b]? := fun b hb h1 h2 => by
    refine ⟨seen_iff.2 ⟨h1, ?_⟩, hgr.block b hb (fun e => h2 e.symm)⟩
    rcases hat with e | e <;> rw [e]
    · exact h2
    · intro e2; injection e2 with e2; omega
  refine (hf.reads (veil_to fun b hb hp => ?_)).append (Term.Flat.one (hT.reads' (veil_to fun b hb hp => ?_)))
  · obtain ⟨h1, h2⟩ := seen_iff.1 hp
    exact key b hb h1 h2
  · have h1 : M ≤ b := of_decide_eq_true hp
    exact key b hb (by omega) (fun e => by have := hg b e; omega)
theorem RowM.kids {B : Nat} {a : Option Addr} {c : Nat} {ts : List Tm} {W : World} (h : RowM B (.slice a ts.length c) ts W) : Term.Kids (veil (from_ B) W) a ts := by
  obtain ⟨xs, h1, h2⟩ := h
  by_cases h0 : ts.length = 0
  · rw [List.length_eq_zero_iff.1 h0]; exact .nokids _
  · have hat : ∃ g, a = some ⟨g, 0, none⟩ ∧ B ≤ g := by
      rcases h1.2 with ⟨_, h0'⟩ | ⟨g, cap, _, hv, hg, _⟩
      · omega
      · injection hv with hv; exact ⟨g, hv, hg⟩
    obtain ⟨g, rfl, hg⟩ := hat
    have hin : Reads (veil (seen B (.slice (some ⟨g, 0, none⟩) ts.length c)) W) (veil (from_ B) W) := veil_to fun b hb hp => ⟨decide_eq_true (seen_iff.1 hp).1, rfl⟩
    refine Term.kids_of_flat (fun j u hu => ?_) (h2.reads hin)
    have hc := h1.cells (g := g) rfl j u hu
    rw [Addr.add_lit, Nat.zero_add] at hc
    rw [World.cell?_of_block (veil_at (decide_eq_true hg))]
    exact hc
theorem RowM.off {B : Nat} {v : Value} {ts : List Tm} {W W' : World} (h : RowM B v ts W) (hb : ∀ b, B ≤ b → W'.heap[b]? = W.heap[b]?) : RowM B v ts W' := by
  obtain ⟨xs, h1, h2⟩ := h
  refine ⟨xs, ⟨h1.1, h1.2.imp id ?_⟩, h2.reads (veil_to fun b hbl hp => ⟨hp, hb b (seen_iff.1 hp).1⟩)⟩
  rintro ⟨g, cap, cur, rfl, hg, hh, r⟩
  exact ⟨g, cap, cur, rfl, hg, (hb g hg).trans hh, r⟩

/-- How it ends: a term in new memory alone. -/
def EraseEnd (r : Tm) (w : World) (e : Ending) (w' : World) : Prop :=
  ∃ q c, e = .returned (.agg #[.int .u8 r.h.k, .int .u8 r.h.op, .int .i64 r.h.pl, .int .i64 r.h.n, .string r.h.name, .string r.h.arg, .string r.h.exn, .slice q r.ks.length c]) ∧ TmIs (veil (from_ w.heap.size) w') r.h q r.ks.length c r ∧ Below w.heap.size w w'
/-- The terms made so far, in a row of one's own; the boxes: what is read, the result, what is made. -/
structure EraseAt (w : World) (h : Hd) (v : V) (l : Nat) (us : List Tm) (j : Nat) (a : Option Addr) (c0 : Nat) (W : World) : Prop where
  below : Below w.heap.size w W
  box : W.heap[w.heap.size]? = some (.cells #[.int .u8 h.h.k, .int .u8 h.h.op, .int .i64 h.h.pl, .int .i64 h.h.n, .string h.h.name, .string h.h.arg, .string h.h.exn, .int .i64 h.rho, .slice v.ra h.rhos.length v.rc, .slice v.ea h.e.length v.ec, .int .u8 h.ty.h.k, .int .i64 h.ty.h.r, .slice v.tea h.ty.h.e.length v.tec, .slice v.tka h.ty.ks.length v.tkc, .int .u8 h.re.h.k, .int .i64 h.re.h.r, .slice v.sea h.re.h.e.length v.sec, .slice v.ska h.re.ks.length v.skc, .slice v.ka l v.kc] 31 (0, 0))
  res : W.heap[w.heap.size + 1]? = some (.cells #[.int .u8 0, .int .u8 0, .int .i64 0, .int .i64 0, .string ⟨#[]⟩, .string ⟨#[]⟩, .string ⟨#[]⟩, .slice none 0 0] 38 (0, 0))
  out : W.heap[w.heap.size + 2]? = some (.cells #[.int .u8 (bareH h).k, .int .u8 h.h.op, .int .i64 h.h.pl, .int .i64 h.h.n, .string h.h.name, .string h.h.arg, .string h.h.exn, .slice a j c0] 38 (0, 0))
  row : RowM (w.heap.size + 3) (.slice a j c0) us W
  len : us.length = j
/-- A box, of its block. -/
theorem box_blk {W : World} {N : Nat} {h : Hd} {v : V} {l : Nat} {ty : TypeId} (hb : W.heap[N]? = some (.cells #[.int .u8 h.h.k, .int .u8 h.h.op, .int .i64 h.h.pl, .int .i64 h.h.n, .string h.h.name, .string h.h.arg, .string h.h.exn, .int .i64 h.rho, .slice v.ra h.rhos.length v.rc, .slice v.ea h.e.length v.ec, .int .u8 h.ty.h.k, .int .i64 h.ty.h.r, .slice v.tea h.ty.h.e.length v.tec, .slice v.tka h.ty.ks.length v.tkc, .int .u8 h.re.h.k, .int .i64 h.re.h.r, .slice v.sea h.re.h.e.length v.sec, .slice v.ska h.re.ks.length v.skc, .slice v.ka l v.kc] ty (0, 0))) : Box W N h v l := by
  unfold Box
  simp [World.cell?, hb]
theorem erase_start (w : World) (h : Hd) (v : V) (l : Nat) : EraseAt w h v l [] 0 none 0 (((w.alloc (.cells #[.int .u8 h.h.k, .int .u8 h.h.op, .int .i64 h.h.pl, .int .i64 h.h.n, .string h.h.name, .string h.h.arg, .string h.h.exn, .int .i64 h.rho, .slice v.ra h.rhos.length v.rc, .slice v.ea h.e.length v.ec, .int .u8 h.ty.h.k, .int .i64 h.ty.h.r, .slice v.tea h.ty.h.e.length v.tec, .slice v.tka h.ty.ks.length v.tkc, .int .u8 h.re.h.k, .int .i64 h.re.h.r, .slice v.sea h.re.h.e.length v.sec, .slice v.ska h.re.ks.length v.skc, .slice v.ka l v.kc] 31)).alloc (.cells #[.int .u8 0, .int .u8 0, .int .i64 0, .int .i64 0, .string ⟨#[]⟩, .string ⟨#[]⟩, .string ⟨#[]⟩, .slice none 0 0] 38)).alloc (.cells #[.int .u8 (bareH h).k, .int .u8 h.h.op, .int .i64 h.h.pl, .int .i64 h.h.n, .string h.h.name, .string h.h.arg, .string h.h.exn, .slice none 0 0] 38)) := by
  have n1 := heap_alloc_new w (.cells #[.int .u8 h.h.k, .int .u8 h.h.op, .int .i64 h.h.pl, .int .i64 h.h.n, .string h.h.name, .string h.h.arg, .string h.h.exn, .int .i64 h.rho, .slice v.ra h.rhos.length v.rc, .slice v.ea h.e.length v.ec, .int .u8 h.ty.h.k, .int .i64 h.ty.h.r, .slice v.tea h.ty.h.e.length v.tec, .slice v.tka h.ty.ks.length v.tkc, .int .u8 h.re.h.k, .int .i64 h.re.h.r, .slice v.sea h.re.h.e.length v.sec, .slice v.ska h.re.ks.length v.skc, .slice v.ka l v.kc] 31)
  have n2 := heap_alloc_new (w.alloc (.cells #[.int .u8 h.h.k, .int .u8 h.h.op, .int .i64 h.h.pl, .int .i64 h.h.n, .string h.h.name, .string h.h.arg, .string h.h.exn, .int .i64 h.rho, .slice v.ra h.rhos.length v.rc, .slice v.ea h.e.length v.ec, .int .u8 h.ty.h.k, .int .i64 h.ty.h.r, .slice v.tea h.ty.h.e.length v.tec, .slice v.tka h.ty.ks.length v.tkc, .int .u8 h.re.h.k, .int .i64 h.re.h.r, .slice v.sea h.re.h.e.length v.sec, .slice v.ska h.re.ks.length v.skc, .slice v.ka l v.kc] 31)) (.cells #[.int .u8 0, .int .u8 0, .int .i64 0, .int .i64 0, .string ⟨#[]⟩, .string ⟨#[]⟩, .string ⟨#[]⟩, .slice none 0 0] 38)
  have n3 := heap_alloc_new ((w.alloc (.cells #[.int .u8 h.h.k, .int .u8 h.h.op, .int .i64 h.h.pl, .int .i64 h.h.n, .string h.h.name, .string h.h.arg, .string h.h.exn, .int .i64 h.rho, .slice v.ra h.rhos.length v.rc, .slice v.ea h.e.length v.ec, .int .u8 h.ty.h.k, .int .i64 h.ty.h.r, .slice v.tea h.ty.h.e.length v.tec, .slice v.tka h.ty.ks.length v.tkc, .int .u8 h.re.h.k, .int .i64 h.re.h.r, .slice v.sea h.re.h.e.length v.sec, .slice v.ska h.re.ks.length v.skc, .slice v.ka l v.kc] 31)).alloc (.cells #[.int .u8 0, .int .u8 0, .int .i64 0, .int .i64 0, .string ⟨#[]⟩, .string ⟨#[]⟩, .string ⟨#[]⟩, .slice none 0 0] 38)) (.cells #[.int .u8 (bareH h).k, .int .u8 h.h.op, .int .i64 h.h.pl, .int .i64 h.h.n, .string h.h.name, .string h.h.arg, .string h.h.exn, .slice none 0 0] 38)
  generalize hO : (Obj.cells #[.int .u8 h.h.k, .int .u8 h.h.op, .int .i64 h.h.pl, .int .i64 h.h.n, .string h.h.name, .string h.h.arg, .string h.h.exn, .int .i64 h.rho, .slice v.ra h.rhos.length v.rc, .slice v.ea h.e.length v.ec, .int .u8 h.ty.h.k, .int .i64 h.ty.h.r, .slice v.tea h.ty.h.e.length v.tec, .slice v.tka h.ty.ks.length v.tkc, .int .u8 h.re.h.k, .int .i64 h.re.h.r, .slice v.sea h.re.h.e.length v.sec, .slice v.ska h.re.ks.length v.skc, .slice v.ka l v.kc] 31) = O at *
  generalize hO2 : (Obj.cells #[.int .u8 0, .int .u8 0, .int .i64 0, .int .i64 0, .string ⟨#[]⟩, .string ⟨#[]⟩, .string ⟨#[]⟩, .slice none 0 0] 38) = O2 at *
  generalize hO3 : (Obj.cells #[.int .u8 (bareH h).k, .int .u8 h.h.op, .int .i64 h.h.pl, .int .i64 h.h.n, .string h.h.name, .string h.h.arg, .string h.h.exn, .slice none 0 0] 38) = O3 at *
  have s1 : (w.alloc O).heap.size = w.heap.size + 1 := by simp
  have s2 : ((w.alloc O).alloc O2).heap.size = w.heap.size + 2 := by simp
  rw [s1] at n2
  rw [s2] at n3
  refine ⟨(box_new _).trans (((box_new _).trans ((box_new _).mono (by simp))).mono (by simp)), ?_, ?_, ?_, RowM.nil _ _, rfl⟩
  · rw [hO]; exact ((box_new _).block _ (by omega)).trans (((box_new _).block _ (by omega)).trans n1)
  · rw [hO2]; exact ((box_new _).block _ (by omega)).trans n2
  · rw [hO3]; exact n3
/-- One more. -/
theorem erase_step {w : World} {h : Hd} {v : V} {l : Nat} {us : List Tm} {j : Nat} {a : Option Addr} {c0 : Nat} {W w2 w3 : World} {xs : List Value} {hd : Term.Hd} {q2 : Option Addr} {l2 c2 M : Nat} {u : Tm} {O : Obj} {a3 : Option Addr} {c3 : Nat}
    (hA : EraseAt w h v l us j a c0 W) (hb2 : Below W.heap.size W w2) (ho : (w2.alloc O).ownsRow (w.heap.size + 3) 38 8 (.slice a j c0) j xs) (hf : Term.Flat (veil (seen (w.heap.size + 3) (.slice a j c0)) (w2.alloc O)) xs us)
    (hT : TmIs (veil (from_ M) w2) hd q2 l2 c2 u) (hM : W.heap.size ≤ M) (ho3 : w3.ownsRow (w.heap.size + 3) 38 8 (.slice a3 (j + 1) c3) (j + 1) (xs ++ tcells hd q2 l2 c2))
    (hg : (w2.alloc O).grownBy w3 (Value.slice a j c0).ownBlock) (hat : (Value.slice a3 (j + 1) c3).ownBlock = (Value.slice a j c0).ownBlock ∨ (Value.slice a3 (j + 1) c3).ownBlock = some (w2.alloc O).heap.size) :
    (w3.cell? ⟨w.heap.size + 2, 7, none⟩ = some (.slice a j c0) ∧ w3.frozen? ⟨w.heap.size + 2, 7, none⟩ = false) ∧ EraseAt w h v l (us ++ [u]) (j + 1) a3 c3 (w3.setCell ⟨w.heap.size + 2, 7, none⟩ (.slice a3 (j + 1) c3)) ∧ Below w.heap.size w w3 ∧ (∀ b, b < w.heap.size + 3 → w3.heap[b]? = W.heap[b]?) ∧ (∀ b, W.heap.size ≤ b → b < (w2.alloc O).heap.size → w3.heap[b]? = (w2.alloc O).heap[b]?) := by
  have hout := lt_of_block hA.out
  have hW2 := hb2.size
  have hsz : (w2.alloc O).heap.size = w2.heap.size + 1 := by simp
  have hge : ∀ g, (Value.slice a j c0).ownBlock = some g → w.heap.size + 3 ≤ g ∧ g < W.heap.size := fun g hgg => by
    obtain ⟨ys, h1, _⟩ := hA.row
    rw [hA.len] at h1
    exact h1.lt g hgg
  have hstay : ∀ b, b < w.heap.size + 3 → w3.heap[b]? = W.heap[b]? := fun b hb => by
    rw [hg.block b (by omega) (fun e => by have := hge b e.symm; omega)]
    exact ((box_new (w := w2) O).block b (by omega)).trans (hb2.block b (by omega))
  have hout3 := (hstay (w.heap.size + 2) (by omega)).trans hA.out
  have hoth : ∀ b, b ≠ w.heap.size + 2 → (w3.setCell ⟨w.heap.size + 2, 7, none⟩ (.slice a3 (j + 1) c3)).heap[b]? = w3.heap[b]? := fun b hb => Below.heap_setCell _ _ _ _ hb
  have hrow : RowM (w.heap.size + 3) (.slice a3 (j + 1) c3) (us ++ [u]) w3 := by
    have hlen := hA.len
    refine row_step (v := .slice a j c0) (W := w2.alloc O) (M := M) (hd := hd) (q := q2) (l := l2) (c := c2) (by rw [hlen]; exact ho) hf (hT.reads' (veil_to fun b hb hp => ⟨hp, (box_new (w := w2) O).block b hb⟩)) (by omega) (fun g hgg => by have := hge g hgg; omega) (by rw [hlen]; exact ho3) hg hat
  have hbel : Below w.heap.size w w3 := by
    have h1 : Below w.heap.size w (w2.alloc O) := below_then hA.below (hb2.alloc (by omega) O) hA.below.size
    exact h1.grown hg h1.size fun g hgg => by have := hge g hgg; omega
  refine ⟨⟨by simp [World.cell?, hout3], by simp [World.frozen?, hout3]⟩, ⟨hbel.setCell (p := ⟨w.heap.size + 2, 7, none⟩) (by show w.heap.size ≤ w.heap.size + 2; omega) _, ?_, ?_, ?_, hrow.off (fun b hb => hoth b (by omega)), by rw [List.length_append, hA.len]; rfl⟩, hbel, hstay, fun b h1 h2 => hg.block b h2 (fun e => by have := hge b e.symm; omega)⟩
  · exact (hoth _ (by omega)).trans ((hstay _ (by omega)).trans hA.box)
  · exact (hoth _ (by omega)).trans ((hstay _ (by omega)).trans hA.res)
  · simp [World.setCell, Array.getElem?_modify, hout3]
theorem bare_ok {h : Hd} (hk : Term.HdOk h.h) : Term.HdOk (bareH h) := by
  unfold bareH
  split
  · exact ⟨by show (0 : Int) ≤ 2 ∧ (2 : Int) ≤ 255; omega, hk.op, hk.pl, hk.n, hk.name, hk.arg, hk.exn⟩
  · exact hk
theorem bare_cells (h : Hd) (q : Option Addr) (l c : Nat) : (#[.int .u8 (bareH h).k, .int .u8 (bareH h).op, .int .i64 (bareH h).pl, .int .i64 (bareH h).n, .string (bareH h).name, .string (bareH h).arg, .string (bareH h).exn, .slice q l c] : Array Value) = #[.int .u8 (bareH h).k, .int .u8 h.h.op, .int .i64 h.h.pl, .int .i64 h.h.n, .string h.h.name, .string h.h.arg, .string h.h.exn, .slice q l c] := by
  unfold bareH
  split <;> rfl
/-- The end: in new memory alone. -/
theorem erase_end {w : World} {h : Hd} {v : V} {l : Nat} {us : List Tm} {j : Nat} {a : Option Addr} {c0 : Nat} {W W' : World} (hk : Term.HdOk h.h) (hA : EraseAt w h v l us j a c0 W) (hoth : ∀ b, b ≠ w.heap.size + 1 → W'.heap[b]? = W.heap[b]?) (hb : Below w.heap.size w W') :
    EraseEnd (.node (bareH h) us) w (.returned (.agg #[.int .u8 (bareH h).k, .int .u8 h.h.op, .int .i64 h.h.pl, .int .i64 h.h.n, .string h.h.name, .string h.h.arg, .string h.h.exn, .slice a j c0])) W' := by
  have hlen := hA.len
  have hsl : j ≤ c0 ∧ c0 ≤ maxLen := by
    obtain ⟨xs, h1, _⟩ := hA.row
    obtain ⟨a', c', he, hc1, hc2⟩ := own_cap h1
    injection he with e1 e2 e3
    subst e1 e3
    exact ⟨by rw [← hlen]; exact hc2, hc1⟩
  have hkk : Term.Kids (veil (from_ (w.heap.size + 3)) W) a us := by
    have := hA.row
    rw [← hlen] at this
    exact this.kids
  refine ⟨a, c0, ?_, ⟨rfl, rfl, bare_ok hk, ?_, hkk.reads' (veil_to fun b hbl hp => ?_)⟩, hb⟩
  · show _ = Ending.returned (.agg #[.int .u8 (bareH h).k, .int .u8 (bareH h).op, .int .i64 (bareH h).pl, .int .i64 (bareH h).n, .string (bareH h).name, .string (bareH h).arg, .string (bareH h).exn, .slice a us.length c0])
    rw [bare_cells, hlen]
  · show us.length ≤ c0 ∧ c0 ≤ maxLen
    rw [hlen]; exact hsl
  · have hp' : w.heap.size + 3 ≤ b := of_decide_eq_true hp
    exact ⟨decide_eq_true (by omega), hoth b (by omega)⟩
/-- A load of a term, as it runs. -/
theorem exec_at {op : Oper} {a : Act} {w : World} (x : Operand) (ho : op.op = .load 31 x) (b o : Nat) (hx : a.eval x = .pointer (some ⟨b, o, none⟩)) {h : Hd} {v : V} {l : Nat} (hr : w.rangeAt b o (acells h v l)) : (execOp a.eval op).run Tryz.prog w = .ok (.value (.agg #[.int .u8 h.h.k, .int .u8 h.h.op, .int .i64 h.h.pl, .int .i64 h.h.n, .string h.h.name, .string h.h.arg, .string h.h.exn, .int .i64 h.rho, .slice v.ra h.rhos.length v.rc, .slice v.ea h.e.length v.ec, .int .u8 h.ty.h.k, .int .i64 h.ty.h.r, .slice v.tea h.ty.h.e.length v.tec, .slice v.tka h.ty.ks.length v.tkc, .int .u8 h.re.h.k, .int .i64 h.re.h.r, .slice v.sea h.re.h.e.length v.sec, .slice v.ska h.re.ks.length v.skc, .slice v.ka l v.kc])) w := by
  unfold execOp
  simp only [ho, hx, Instr.loadAt, Instr.sureAddr, Sem.run_bind, Sem.run_pure, Result.andThen_ok, run_loadVar_mid w b o 31 (acells h v l) _ hr Tryz.underlying31 rfl atInfo]
theorem told_of {a0 : Option Addr} {j c0 n cap gg : Nat} {w2 : World} {O : Obj} (h : (Value.slice a0 j c0).ownBlock = some gg ∨ gg = w2.heap.size + 1) : (Value.slice (some ⟨gg, 0, none⟩) n cap).ownBlock = (Value.slice a0 j c0).ownBlock ∨ (Value.slice (some ⟨gg, 0, none⟩) n cap).ownBlock = some (w2.alloc O).heap.size := by
  rcases h with h | h
  · exact .inl (by rw [h]; rfl)
  · exact .inr (by rw [h]; simp [Value.ownBlock])
theorem undrew' {B : Nat} {w w2 : World} (h : Below B w.drew w2) : Below B w w2 := ⟨h.os, h.tape, h.output, h.size, h.block⟩
theorem new8 {w : World} {N : Nat} {h : Term.Hd} {q : Option Addr} {l c : Nat} {ty : TypeId} (hN : N = w.heap.size) (j : Nat) : ∀ u, (tcells h q l c)[j]? = some u → (w.alloc (.cells #[.int .u8 h.k, .int .u8 h.op, .int .i64 h.pl, .int .i64 h.n, .string h.name, .string h.arg, .string h.exn, .slice q l c] ty)).cell? ((⟨N, 0, none⟩ : Addr).add j) = some u := by
  intro u hu
  subst hN
  rw [Addr.add_lit, Nat.zero_add, World.cell?_alloc_mark]
  simpa [tcells] using hu
theorem cells_one8 (h : Term.Hd) (q : Option Addr) (l c : Nat) : ∀ u ∈ tcells h q l c, u.oneCell' = true := by
  intro u hu
  simp [tcells] at hu
  rcases hu with rfl | rfl | rfl | rfl | rfl | rfl | rfl | rfl <;> rfl
theorem set8_other (W : World) (N : Nat) (a b c d e f g i : Value) {k : Nat} (hk : k ≠ N) : ((((((((W.setCell ⟨N, 0, none⟩ a).setCell ⟨N, 1, none⟩ b).setCell ⟨N, 2, none⟩ c).setCell ⟨N, 3, none⟩ d).setCell ⟨N, 4, none⟩ e).setCell ⟨N, 5, none⟩ f).setCell ⟨N, 6, none⟩ g).setCell ⟨N, 7, none⟩ i).heap[k]? = W.heap[k]? := by
  rw [Below.heap_setCell _ _ _ _ hk, Below.heap_setCell _ _ _ _ hk, Below.heap_setCell _ _ _ _ hk, Below.heap_setCell _ _ _ _ hk, Below.heap_setCell _ _ _ _ hk, Below.heap_setCell _ _ _ _ hk, Below.heap_setCell _ _ _ _ hk, Below.heap_setCell _ _ _ _ hk]
theorem set8_below {B N : Nat} {W : World} (a b c d e f g i : Value) (hN : B ≤ N) : Below B W ((((((((W.setCell ⟨N, 0, none⟩ a).setCell ⟨N, 1, none⟩ b).setCell ⟨N, 2, none⟩ c).setCell ⟨N, 3, none⟩ d).setCell ⟨N, 4, none⟩ e).setCell ⟨N, 5, none⟩ f).setCell ⟨N, 6, none⟩ g).setCell ⟨N, 7, none⟩ i) :=
  (((((((((Below.refl B W).setCell (p := ⟨N, 0, none⟩) hN _).setCell (p := ⟨N, 1, none⟩) hN _).setCell (p := ⟨N, 2, none⟩) hN _).setCell (p := ⟨N, 3, none⟩) hN _).setCell (p := ⟨N, 4, none⟩) hN _).setCell (p := ⟨N, 5, none⟩) hN _).setCell (p := ⟨N, 6, none⟩) hN _).setCell (p := ⟨N, 7, none⟩) hN _)
end Aterm
end Go.Proofs.YtolpdhkgkjnbfaaGreatDoor
