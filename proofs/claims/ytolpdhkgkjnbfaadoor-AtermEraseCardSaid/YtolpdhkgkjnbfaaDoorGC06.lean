/-May a term with regions be: mathematics. The program's way through all nodes of terms with regions: what may be turned, and what is asked of its closure. (Written by wip/tools/atfold.py.) The program's way through all nodes of terms with regions: the walk, with the closure of May. (Written by wip/tools/atfold.py.) A row of one term with regions. (Written by wip/tools/atsizep.py.) The program's from: are all regions from a number on? (Written by wip/tools/atfits.py.) The program's odd and inRegion, and its way through all nodes with odd: May. -/
import Derived.Test.YtolpdhkgkjnbfaaDoorGC05
import Derived.Deep.WholeRow
import Derived.Test.YtolpdhkgkjnbfaaDoorGC04
import Derived.Test.YtolpdhkgkjnbfaaDoorGC02
namespace Go.Proofs.YtolpdhkgkjnbfaaDoor
open Go.RowKit
set_option linter.unusedVariables false
set_option linter.unusedSimpArgs false
namespace Aterm
open Effect (At AtOk AtsAt Rd RdI ofA)
open Words (nameB exnB)

/-- A head of a kind that layer 4 knows, of just these fields and kids. -/
def likeK (k : Int) : Int := if k = 17 then 4 else if k = 18 then 2 else k
def likeH (h : Term.Hd) : Term.Hd := { h with k := likeK h.k }
def headOk (h : Term.Hd) (n : Nat) : Bool := Term.nodeB (likeH h) n
def rhoOk (h : Hd) : Bool := if h.h.k = 3 ∨ h.h.k = 6 ∨ h.h.k = 11 ∨ h.h.k = 13 ∨ h.h.k = 18 then decide (0 ≤ h.rho) else if h.h.k = 17 then decide (1 ≤ h.rho) else decide (h.rho = 0)
def rhosOk (h : Hd) : Bool := if h.h.k = 13 then !metO [] h.rhos && decide (∀ x ∈ h.rhos, 1 ≤ x) else if h.h.k = 18 then decide (∀ x ∈ h.rhos, 0 ≤ x) else decide (h.rhos.length = 0)
def effK (k : Int) : Bool := decide (k = 11 ∨ k = 13 ∨ k = 18)
def typK (k : Int) : Bool := decide (k = 11 ∨ k = 13 ∨ k = 15)
def effOk (h : Hd) : Bool := if effK h.h.k = true then decide (h.e = ofA h.e) else decide (h.e.length = 0)
def typOk (h : Hd) : Bool := if typK h.h.k = true then Rt.mayT h.ty else plainB h.ty
def resOk (h : Hd) : Bool := if h.h.k = 13 then Rt.mayT h.re else plainB h.re
/-- May a node alone be, of so many kids? -/
def nodeB (h : Hd) (n : Nat) : Bool := headOk h.h n && rhoOk h && rhosOk h && effOk h && typOk h && resOk h
/-- May a term be? -/
def mayT (t : AT) : Bool := decide (wt t ≤ 40000) && allT nodeB t

theorem kids_le {k : Int} : Term.kidsN k ≤ 3 := by unfold Term.kidsN; repeat' split; all_goals omega
theorem head_many {h : Term.Hd} {n : Nat} (hn : 3 < n) : headOk h n = false := by
  unfold headOk
  exact Term.nodeB_no (fun hh => by have := kids_le (k := (likeH h).k); have := hh.1; omega)

/-! ### All nodes, as far as they hold -/
mutual
def foT {σ : Type} (B : σ → AT → Bool) (S : σ → AT → σ) : AT → σ → Bool × σ
  | .node h l, s => if B s (.node h l) = true then foK B S l (S s (.node h l)) else (false, S s (.node h l))
def foK {σ : Type} (B : σ → AT → Bool) (S : σ → AT → σ) : List AT → σ → Bool × σ
  | [], s => (true, s)
  | t :: ts, s => if (foT B S t s).1 = true then foK B S ts (foT B S t s).2 else (false, (foT B S t s).2)
end
section
variable {σ : Type} (B : σ → AT → Bool) (S : σ → AT → σ)
theorem foT_eq (t : AT) (s : σ) : foT B S t s = if B s t = true then foK B S t.ks (S s t) else (false, S s t) := by cases t; unfold foT; rfl
theorem foK_nil (s : σ) : foK B S [] s = (true, s) := by unfold foK; rfl
theorem foK_cons (t : AT) (ts : List AT) (s : σ) : foK B S (t :: ts) s = if (foT B S t s).1 = true then foK B S ts (foT B S t s).2 else (false, (foT B S t s).2) := by conv => lhs; unfold foK
theorem foK_no {ts : List AT} {j : Nat} {u : σ} (hj : j < ts.length) (h : B u (tget ts j) = false) : foK B S (ts.drop j) u = (false, S u (tget ts j)) := by
  rw [drop_tget ts j hj, foK_cons, foT_eq]
  simp [h]
theorem foK_kno {ts : List AT} {j : Nat} {u : σ} (hj : j < ts.length) (h : B u (tget ts j) = true) (hk : (foK B S (tget ts j).ks (S u (tget ts j))).1 = false) : foK B S (ts.drop j) u = (false, (foK B S (tget ts j).ks (S u (tget ts j))).2) := by
  rw [drop_tget ts j hj, foK_cons, foT_eq, if_pos h, if_neg (by rw [hk]; exact Bool.false_ne_true)]
theorem foK_yes {ts : List AT} {j : Nat} {u : σ} (hj : j < ts.length) (h : B u (tget ts j) = true) (hk : (foK B S (tget ts j).ks (S u (tget ts j))).1 = true) : foK B S (ts.drop j) u = foK B S (ts.drop (j + 1)) (foK B S (tget ts j).ks (S u (tget ts j))).2 := by
  rw [drop_tget ts j hj, foK_cons, foT_eq, if_pos h, if_pos hk]
/-- Along the list of nodes. -/
def foL : List AT → σ → Bool × σ
  | [], s => (true, s)
  | t :: ts, s => if B s t = true then foL ts (S s t) else (false, S s t)
theorem foL_append (l m : List AT) (s : σ) : foL B S (l ++ m) s = if (foL B S l s).1 = true then foL B S m (foL B S l s).2 else foL B S l s := by
  induction l generalizing s with
  | nil => simp [foL]
  | cons t ts ih =>
    rw [List.cons_append, foL, foL]
    by_cases hb : B s t = true
    · rw [if_pos hb, if_pos hb]; exact ih _
    · rw [if_neg hb, if_neg hb, if_neg Bool.false_ne_true]
theorem fo_flat : ∀ m : Nat, (∀ t s, wt t ≤ m → foT B S t s = foL B S (flatT t) s) ∧ (∀ ts s, wts ts ≤ m → foK B S ts s = foL B S (flatK ts) s) := by
  intro m
  induction m with
  | zero =>
    refine ⟨fun t s h => by have := wt_pos t; omega, fun ts s h => ?_⟩
    cases ts with
    | nil => rw [flatK_nil, foK_nil]; rfl
    | cons t ts => rw [wts_cons] at h; have := wt_pos t; omega
  | succ m ih =>
    have hT : ∀ t s, wt t ≤ m + 1 → foT B S t s = foL B S (flatT t) s := by
      intro t s h
      have hk := wt_ks t
      rw [flatT_eq, foT_eq, foL]
      split
      · exact ih.2 t.ks _ (by omega)
      · rfl
    refine ⟨hT, fun ts => ?_⟩
    induction ts with
    | nil => intro s _; rw [flatK_nil, foK_nil]; rfl
    | cons t ts ihs =>
      intro s h
      rw [wts_cons] at h
      rw [flatK_cons, foK_cons, foL_append, ← hT t s (by omega)]
      split
      · exact ihs _ (by omega)
      · rename_i hh
        have : (foT B S t s).1 = false := by simpa using hh
        rw [← this]
theorem foT_flat (t : AT) (s : σ) : foT B S t s = foL B S (flatT t) s := (fo_flat B S (wt t)).1 t s (Nat.le_refl _)
theorem foK_flat (ts : List AT) (s : σ) : foK B S ts s = foL B S (flatK ts) s := (fo_flat B S (wts ts)).2 ts s (Nat.le_refl _)
end
/-- Of what holds always. -/
theorem foL_true {σ : Type} (S : σ → AT → σ) : ∀ (l : List AT) (s : σ), foL (fun _ _ => true) S l s = (true, l.foldl S s)
  | [], s => rfl
  | t :: ts, s => by rw [foL, if_pos rfl, foL_true S ts, List.foldl_cons]

/-! ### May -/
def mayB (s : Int) (t : AT) : Bool := decide (0 ≤ s - 1) && nodeB t.h t.ks.length
def mayS (s : Int) (_ : AT) : Int := s - 1
theorem foL_may : ∀ (l : List AT) (s : Int), 0 ≤ s → (foL mayB mayS l s).1 = (decide ((l.length : Int) ≤ s) && l.all fun t => nodeB t.h t.ks.length)
  | [], s, hs => by rw [foL]; simp; exact hs
  | t :: ts, s, hs => by
    rw [foL]
    by_cases h0 : 0 ≤ s - 1
    · have hb : mayB s t = nodeB t.h t.ks.length := by unfold mayB; rw [decide_eq_true h0, Bool.true_and]
      cases hn : nodeB t.h t.ks.length
      · rw [hb, hn, if_neg Bool.false_ne_true]
        simp [hn]
      · rw [hb, hn, if_pos rfl, foL_may ts (mayS s t) h0, List.all_cons, hn, Bool.true_and, List.length_cons]
        congr 1
        rw [decide_eq_decide]
        unfold mayS
        omega
    · have hb : mayB s t = false := by unfold mayB; rw [decide_eq_false h0, Bool.false_and]
      rw [hb, if_neg Bool.false_ne_true, decide_eq_false (by rw [List.length_cons]; omega), Bool.false_and]
section
variable (B : Hd → Nat → Bool)
theorem all_flat : ∀ m : Nat, (∀ t, wt t ≤ m → allT B t = (flatT t).all fun t => B t.h t.ks.length) ∧ (∀ ts, wts ts ≤ m → allK B ts = (flatK ts).all fun t => B t.h t.ks.length) := by
  intro m
  induction m with
  | zero =>
    refine ⟨fun t h => by have := wt_pos t; omega, fun ts h => ?_⟩
    cases ts with
    | nil => rw [flatK_nil, allK_nil]; rfl
    | cons t ts => rw [wts_cons] at h; have := wt_pos t; omega
  | succ m ih =>
    have hT : ∀ t, wt t ≤ m + 1 → allT B t = (flatT t).all fun t => B t.h t.ks.length := by
      intro t h
      have hk := wt_ks t
      rw [allT_eq, flatT_eq, List.all_cons, ih.2 t.ks (by omega)]
    refine ⟨hT, fun ts => ?_⟩
    induction ts with
    | nil => intro _; rw [flatK_nil, allK_nil]; rfl
    | cons t ts ihs =>
      intro h
      rw [wts_cons] at h
      rw [allK_cons, flatK_cons, List.all_append, hT t (by omega), ihs (by omega)]
theorem allT_flat (t : AT) : allT B t = (flatT t).all fun t => B t.h t.ks.length := (all_flat B (wt t)).1 t (Nat.le_refl _)
end
theorem fo_may (t : AT) : (foT mayB mayS t 40000).1 = mayT t := by
  rw [foT_flat, foL_may _ _ (by omega), flatT_len, ← allT_flat]
  unfold mayT
  congr 1
  rw [decide_eq_decide]
  omega

/-! ### Apart -/
/-- What is met behind a node's own, up to the first one that was met. -/
def metI : List Int → List Int → List Int
  | met, [] => met
  | met, x :: xs => if met.contains x = true then met else metI (met ++ [x]) xs
theorem metI_no : ∀ (xs met : List Int), metO met xs = false → metI met xs = met ++ xs
  | [], met, _ => by rw [metI, List.append_nil]
  | x :: xs, met, h => by
    rw [metO, Bool.or_eq_false_iff] at h
    rw [metI, if_neg (by rw [h.1]; exact Bool.false_ne_true), metI_no xs _ h.2, List.append_assoc]; rfl
/-- What is met, and where one was met again. -/
def apS (s : List Int × Option Int) (t : AT) : List Int × Option Int := (metI s.1 (ownH t.h), if metO s.1 (ownH t.h) = true then some t.h.h.pl else s.2)
def apB (s : List Int × Option Int) (t : AT) : Bool := !metO s.1 (ownH t.h)
theorem foL_apart : ∀ (l : List AT) (met : List Int), (foL apB apS l (met, none)).1 = (apartL l met).isNone ∧ (foL apB apS l (met, none)).2.2 = apartL l met
  | [], met => ⟨rfl, rfl⟩
  | t :: ts, met => by
    rw [foL, apartL]
    by_cases hm : metO met (ownH t.h) = true
    · have hb : apB (met, none) t = false := by unfold apB; simp only; rw [hm]; rfl
      have hs : (apS (met, none) t).2 = some t.h.h.pl := by unfold apS; simp only; rw [if_pos hm]
      rw [hb, if_neg Bool.false_ne_true, if_pos hm]
      exact ⟨rfl, hs⟩
    · have hm' : metO met (ownH t.h) = false := by simpa using hm
      have hb : apB (met, none) t = true := by unfold apB; simp only; rw [hm']; rfl
      have hs : apS (met, none) t = (met ++ ownH t.h, none) := by unfold apS; simp only; rw [if_neg hm, metI_no _ _ hm']
      rw [hb, if_pos rfl, if_neg hm, hs]
      exact foL_apart ts _
theorem fo_apart (t : AT) : (foT apB apS t ([], none)).1 = (apartT t).isNone ∧ (foT apB apS t ([], none)).2.2 = apartT t := by
  rw [foT_flat]
  exact foL_apart _ _
end Aterm
end Go.Proofs.YtolpdhkgkjnbfaaDoor
namespace Go.Proofs.YtolpdhkgkjnbfaaDoor
open Go.RowKit
set_option linter.unusedVariables false
set_option linter.unusedSimpArgs false
namespace Aterm
open Rt (box_new box_at below_then)
open Effect (ret_bool ret_i64 lt_of_block heap_alloc_new)

/-- Only blocks of P may be turned. -/
structure Tch (P : Nat → Option Obj → Prop) (w w' : World) : Prop where
  os : w'.os = w.os
  tape : w'.tape = w.tape
  output : w'.output = w.output
  size : w.heap.size ≤ w'.heap.size
  block : ∀ k, k < w.heap.size → ¬ P k w.heap[k]? → w'.heap[k]? = w.heap[k]?
section
variable {P : Nat → Option Obj → Prop}
theorem Tch.refl (w : World) : Tch P w w := ⟨rfl, rfl, rfl, Nat.le_refl _, fun _ _ _ => rfl⟩
theorem Tch.trans {a b c : World} (h : Tch P a b) (k : Tch P b c) : Tch P a c :=
  ⟨k.os.trans h.os, k.tape.trans h.tape, k.output.trans h.output, Nat.le_trans h.size k.size, fun i hi hn => by
    have h1 := h.block i hi hn
    exact (k.block i (Nat.lt_of_lt_of_le hi h.size) (by rw [h1]; exact hn)).trans h1⟩
theorem Tch.of_below {w w' : World} (hb : Below w.heap.size w w') : Tch P w w' := ⟨hb.os, hb.tape, hb.output, hb.size, fun i hi _ => hb.block i hi⟩
theorem Tch.alloc {a w : World} (h : Tch P a w) (O : Obj) : Tch P a (w.alloc O) := h.trans (Tch.of_below (box_new O))
theorem Tch.drew {a w : World} (h : Tch P a w) : Tch P a w.drew := ⟨h.os, h.tape, h.output, h.size, h.block⟩
theorem Tch.below {w w' a : World} {B : Nat} (h : Tch P w w') (hP : ∀ k O, k < B → ¬ P k O) (ha : Below B a w) (hB : B ≤ a.heap.size) : Below B a w' :=
  ⟨h.os.trans ha.os, h.tape.trans ha.tape, h.output.trans ha.output, Nat.le_trans ha.size h.size, fun k hk => (h.block k (by have := ha.size; omega) (hP k _ hk)).trans (ha.block k hk)⟩
theorem Tch.range {w w' : World} (h : Tch P w w') {b o : Nat} {cs : List Value} (hr : w.rangeAt b o cs) (hn : ¬ P b w.heap[b]?) : w'.rangeAt b o cs := fun j v hv => by
  have h1 := hr j v hv
  have hlt : b < w.heap.size := World.block_lt_of_cell? w ⟨b, o + j, none⟩ h1
  rw [World.cell?_of_block (w := w) (a := ⟨b, o + j, none⟩) (h.block b hlt hn)]
  exact h1
theorem Tch.box {w w' : World} (h : Tch P w w') {N : Nat} {hd : Hd} {v : V} {l : Nat} (k : Box w N hd v l) (hn : ¬ P N w.heap[N]?) : Box w' N hd v l := by
  have hlt : N < w.heap.size := World.block_lt_of_cell? w _ k.1
  have hb := h.block N hlt hn
  unfold Box at *
  simp only [World.cell?_of_block (w := w) (w' := w') (a := ⟨N, _, none⟩) hb]
  exact k
end
/-- What is asked of a state's reading in memory. -/
structure Goes {σ : Type} (w0 : World) (P : Nat → Option Obj → Prop) (I : Nat → σ → World → Prop) : Prop where
  low : ∀ k O, k < w0.heap.size → ¬ P k O
  new : ∀ r s W, I r s W → ∀ cs fz, ¬ P W.heap.size (some (.cells cs 33 fz))
  keep : ∀ r s W W', I r s W → Below W.heap.size W W' → I r s W'
  less : ∀ r r' s W, I r s W → r' ≤ r → I r' s W
/-- How such a call ends. -/
def FoEnd {σ : Type} (P : Nat → Option Obj → Prop) (I : σ → World → Prop) (r : Bool × σ) (w : World) (e : Ending) (w' : World) : Prop := e = .returned (.bool r.1) ∧ I r.2 w' ∧ Tch P w w'
/-- What is asked of the closure. -/
def Steps {σ : Type} (c : Nat) (env : List Value) (B : σ → AT → Bool) (S : σ → AT → σ) (C : Hd → Nat → Bool) (w0 : World) (P : Nat → Option Obj → Prop) (I : Nat → σ → World → Prop) : Prop :=
  ∀ r s W t h v l, I (r + 1) s W → AtIs w0 h v l t → C h l = true → Below w0.heap.size w0 W → Calls Tryd.prog c (Value.agg #[.int .u8 h.h.k, .int .u8 h.h.op, .int .i64 h.h.pl, .int .i64 h.h.n, .string h.h.name, .string h.h.arg, .string h.h.exn, .int .i64 h.rho, .slice v.ra h.rhos.length v.rc, .slice v.ea h.e.length v.ec, .int .u8 h.ty.h.k, .int .i64 h.ty.h.r, .slice v.tea h.ty.h.e.length v.tec, .slice v.tka h.ty.ks.length v.tkc, .int .u8 h.re.h.k, .int .i64 h.re.h.r, .slice v.sea h.re.h.e.length v.sec, .slice v.ska h.re.ks.length v.skc, .slice v.ka l v.kc] :: env).toArray W (FoEnd P (I r) (B s t, S s t) W)
/-- A row of terms: its cells may lie in newer memory. -/
def RowS (w0 W : World) (p : Option Addr) (ts : List AT) : Prop := ∀ i, i < ts.length → ∃ b o v, p = some ⟨b, o, none⟩ ∧ AtIs w0 (tget ts i).h v (tget ts i).ks.length (tget ts i) ∧ W.rangeAt b (o + i * 19) (acells (tget ts i).h v (tget ts i).ks.length)
theorem rowS_kids {w0 W : World} {p : Option Addr} {ts : List AT} (h : Kids w0 p ts) (hb : Below w0.heap.size w0 W) : RowS w0 W p ts := fun i hi => by
  obtain ⟨b, o, v, h1, h2, h3⟩ := h.load i hi
  exact ⟨b, o, v, h1, h2, range_below h3 hb⟩
theorem wts_drop' (ts : List AT) (j : Nat) (hj : j < ts.length) : wts (ts.drop j) = wts (tget ts j).ks + 1 + wts (ts.drop (j + 1)) := by
  rw [wts_drop ts j hj, wt_ks]
/-- A term that is loaded behind a guard that is met. -/
theorem at_load_g {ops : Array Oper} {rest : List Oper} {op : Oper} {a : Act} {w : World} {Q : Exit → Act → World → Prop} (hw : Region.wanted op (yielded ops a.tmps) = true) (x : Operand) (ho : op.op = .load 33 x)
    (b o : Nat) (hx : a.eval x = .pointer (some ⟨b, o, none⟩)) {h : Hd} {v : V} {l : Nat} (hr : w.rangeAt b o (acells h v l))
    (k : wpList Tryd.prog ops Q rest (a.put op.dst (.agg #[.int .u8 h.h.k, .int .u8 h.h.op, .int .i64 h.h.pl, .int .i64 h.h.n, .string h.h.name, .string h.h.arg, .string h.h.exn, .int .i64 h.rho, .slice v.ra h.rhos.length v.rc, .slice v.ea h.e.length v.ec, .int .u8 h.ty.h.k, .int .i64 h.ty.h.r, .slice v.tea h.ty.h.e.length v.tec, .slice v.tka h.ty.ks.length v.tkc, .int .u8 h.re.h.k, .int .i64 h.re.h.r, .slice v.sea h.re.h.e.length v.sec, .slice v.ska h.re.ks.length v.skc, .slice v.ka l v.kc])) w) : wpList Tryd.prog ops Q (op :: rest) a w := by
  rw [wpList, if_pos hw]
  exact .inl (wp_load_mid 33 x ho b o hx (acells h v l) _ hr Tryd.underlying33 rfl atInfo k)
/-- A term that is laid into a block that was made last. -/
theorem at_store {ops : Array Oper} {rest : List Oper} {op : Oper} {a : Act} {w0 : World} {Q : Exit → Act → World → Prop} (hgd : op.guard = none) (x y : Operand) (ho : op.op = .store 33 x y) (c : Array Value) (hc : c.size = 19)
    (h : Hd) (v : V) (l : Nat) (hx : a.eval x = .pointer (some ⟨w0.heap.size, 0, none⟩)) (hy : a.eval y = .agg #[.int .u8 h.h.k, .int .u8 h.h.op, .int .i64 h.h.pl, .int .i64 h.h.n, .string h.h.name, .string h.h.arg, .string h.h.exn, .int .i64 h.rho, .slice v.ra h.rhos.length v.rc, .slice v.ea h.e.length v.ec, .int .u8 h.ty.h.k, .int .i64 h.ty.h.r, .slice v.tea h.ty.h.e.length v.tec, .slice v.tka h.ty.ks.length v.tkc, .int .u8 h.re.h.k, .int .i64 h.re.h.r, .slice v.sea h.re.h.e.length v.sec, .slice v.ska h.re.ks.length v.skc, .slice v.ka l v.kc])
    (k : wpList Tryd.prog ops Q rest (a.put op.dst undef) (w0.alloc (.cells #[.int .u8 h.h.k, .int .u8 h.h.op, .int .i64 h.h.pl, .int .i64 h.h.n, .string h.h.name, .string h.h.arg, .string h.h.exn, .int .i64 h.rho, .slice v.ra h.rhos.length v.rc, .slice v.ea h.e.length v.ec, .int .u8 h.ty.h.k, .int .i64 h.ty.h.r, .slice v.tea h.ty.h.e.length v.tec, .slice v.tka h.ty.ks.length v.tkc, .int .u8 h.re.h.k, .int .i64 h.re.h.r, .slice v.sea h.re.h.e.length v.sec, .slice v.ska h.re.ks.length v.skc, .slice v.ka l v.kc] 33))) : wpList Tryd.prog ops Q (op :: rest) a (w0.alloc (.cells c 33)) :=
  wpList_plain hgd fun _ hK => by
    have hst := run_storeVar_new (P := Tryd.prog) w0 33 c #[.int .u8 h.h.k, .int .u8 h.h.op, .int .i64 h.h.pl, .int .i64 h.h.n, .string h.h.name, .string h.h.arg, .string h.h.exn, .int .i64 h.rho, .slice v.ra h.rhos.length v.rc, .slice v.ea h.e.length v.ec, .int .u8 h.ty.h.k, .int .i64 h.ty.h.r, .slice v.tea h.ty.h.e.length v.tec, .slice v.tka h.ty.ks.length v.tkc, .int .u8 h.re.h.k, .int .i64 h.re.h.r, .slice v.sea h.re.h.e.length v.sec, .slice v.ska h.re.ks.length v.skc, .slice v.ka l v.kc] atInfo hc (all_oneCell_toArray (cs := acells h v l) (fun u hu => by
      simp [acells] at hu
      rcases hu with rfl | rfl | rfl | rfl | rfl | rfl | rfl | rfl | rfl | rfl | rfl | rfl | rfl | rfl | rfl | rfl | rfl | rfl | rfl <;> rfl))
    unfold Oper.wp execOp
    simp only [ho, hx, hy, Instr.storeAt, Instr.sureAddr, Sem.run_bind, Sem.run_pure, Result.andThen_ok, hst]
    exact hK _ _ k
end Aterm
end Go.Proofs.YtolpdhkgkjnbfaaDoor
namespace Go.Proofs.YtolpdhkgkjnbfaaDoor
open Go.RowKit
set_option linter.unusedVariables false
set_option linter.unusedSimpArgs false
namespace Aterm
open Rt (box_new box_at below_then)
open Effect (ret_bool ret_i64 lt_of_block heap_alloc_new)

set_option maxRecDepth 10000 in
set_option maxHeartbeats 6400000 in
theorem allMay_walk {σ : Type} (B : σ → AT → Bool) (S : σ → AT → σ) (C : Hd → Nat → Bool) (w0 : World) (P : Nat → Option Obj → Prop) (K0 : Nat) (I : Nat → σ → World → Prop) (hI : Goes w0 P I) (hC : Steps 30 [.pointer (some ⟨K0, 0, none⟩)] B S C w0 P I) :
    ∀ (m : Nat) (ts : List AT) (p : Option Addr) (l d r : Nat) (s : σ) (w : World), wts ts ≤ m → ts.length = l → l ≤ maxLen → (∀ W, Tch P w W → RowS w0 W p ts) → Below w0.heap.size w0 w → allK C ts = true → I (r + wts ts) s w →
    Calls Tryd.prog 21 #[.func (.func 30) #[] #[.pointer (some ⟨K0, 0, none⟩)], .slice p l d] w (FoEnd P (I r) (foK B S ts s) w) := by
  have GI := Lib.hid hI; have GC := Lib.hid hC
  clear hI hC
  intro m
  induction m using Nat.strongRecOn with
  | _ m ih =>
    intro ts p l d r s w hm hl hlm hk hb00 hcc hi
    unfold maxLen at hlm
    have HM := Lib.hid hm; have HL := Lib.hid hl; have HK := Lib.hid hk; have HI := Lib.hid hi; have IH := Lib.hid ih; have HB00 := Lib.hid hb00; have HCC := Lib.hid hcc
    clear hm hl hk hi ih hb00 hcc
    go_enter Tryd.func21, Tryd.ntmps21
    go_wp2_with (fail)
    go_loopw [6, 9] (fun _ i wr => ∃ (j : Nat) (u : σ), j ≤ l ∧ i = .int .i64 j ∧ Hid (foK B S ts s = foK B S (ts.drop j) u) ∧ Hid (I (r + wts (ts.drop j)) u wr) ∧ Hid (Tch P w wr)) (fun _ i _ => l - (intOf i).toNat)
    case atStart => exact ⟨0, s, Nat.zero_le _, rfl, Lib.hid (by rw [List.drop_zero]), Lib.hid (by rw [List.drop_zero]; exact HI.out), Lib.hid (Tch.refl _)⟩
    case round =>
      obtain ⟨j, u, hj, rfl, HF, HJ, HS⟩ := hrel
      by_cases hlt : j < l
      · have hjk : j < ts.length := by rw [HL.out]; exact hlt
        obtain ⟨b, o, v, rfl, hkid, hrg⟩ := HK.out wr HS.out j hjk
        have hbr : Below w0.heap.size w0 wr := HS.out.below GI.out.low HB00.out (Nat.le_refl _)
        have hcj := allK_get _ hjk HCC.out
        rw [allT_eq, Bool.and_eq_true] at hcj
        have hwd := wts_drop' ts j hjk
        have hwm : wts (tget ts j).ks < wts ts := by have h1 := wts_get hjk; have h2 := wt_ks (tget ts j); omega
        have hin : I ((r + wts (ts.drop (j + 1))) + wts (tget ts j).ks + 1) u wr := GI.out.less _ _ _ _ HJ.out (by omega)
        have hnew := GI.out.new _ _ _ HJ.out
        have HJK := Lib.hid hjk; have HKID := Lib.hid hkid; have HWM := Lib.hid hwm; have HIN := Lib.hid hin; have HRG := Lib.hid hrg; have HBR := Lib.hid hbr; have HCJ := Lib.hid hcj; have HNEW := Lib.hid hnew
        clear hjk hkid hwd hwm hin hrg hbr hcj hnew
        go_upto_region 4 with (first | refine at_load rfl _ rfl b (o + j * 19) rfl HRG.out ?_ | refine at_store rfl _ _ rfl _ rfl (tget ts j).h v (tget ts j).ks.length rfl rfl ?_)
        obtain ⟨W0, hW0⟩ : ∃ W0, W0 = wr.alloc (.cells #[.int .u8 (tget ts j).h.h.k, .int .u8 (tget ts j).h.h.op, .int .i64 (tget ts j).h.h.pl, .int .i64 (tget ts j).h.h.n, .string (tget ts j).h.h.name, .string (tget ts j).h.h.arg, .string (tget ts j).h.h.exn, .int .i64 (tget ts j).h.rho, .slice v.ra (tget ts j).h.rhos.length v.rc, .slice v.ea (tget ts j).h.e.length v.ec, .int .u8 (tget ts j).h.ty.h.k, .int .i64 (tget ts j).h.ty.h.r, .slice v.tea (tget ts j).h.ty.h.e.length v.tec, .slice v.tka (tget ts j).h.ty.ks.length v.tkc, .int .u8 (tget ts j).h.re.h.k, .int .i64 (tget ts j).h.re.h.r, .slice v.sea (tget ts j).h.re.h.e.length v.sec, .slice v.ska (tget ts j).h.re.ks.length v.skc, .slice v.ka (tget ts j).ks.length v.kc] 33) := ⟨_, rfl⟩
        have hbx : Box W0 wr.heap.size (tget ts j).h v (tget ts j).ks.length := by rw [hW0]; exact box_of (w := wr) (h := (tget ts j).h) (v := v) (l := (tget ts j).ks.length)
        have hb0 : Below wr.heap.size wr W0 := by rw [hW0]; exact box_new _
        have hnp : ¬ P wr.heap.size W0.heap[wr.heap.size]? := by
          rw [hW0, heap_alloc_new]
          exact HNEW.out _ _
        rw [← hW0]
        clear hW0
        have HSA := Lib.hid (HS.out.trans (Tch.of_below hb0))
        have HST := Lib.hid (GI.out.keep _ _ _ _ HIN.out hb0); have HBR0 := Lib.hid (below_then HBR.out hb0 HBR.out.size)
        generalize hN0 : wr.heap.size = N0 at hbx hnp ⊢
        have HNP := Lib.hid hnp; have HBX := Lib.hid hbx; have HRB := Lib.hid hbx.range
        clear hb0 hN0 hbx hnp
        go_wp2_with (refine at_load rfl _ rfl N0 0 rfl HRB.out ?_)
        refine (GC.out _ _ _ (tget ts j) (tget ts j).h v (tget ts j).ks.length HST.out HKID.out HCJ.out.1 HBR0.out).mono ?_
        rintro e w1 ⟨rfl, hi1, hs1⟩
        obtain ⟨b0, b1, b2, b3, b4, b5, b6, b7, b8, b9, b10, b11, b12, b13, b14, b15, b16, b17, b18⟩ := hs1.box HBX.out HNP.out
        clear b0 b1 b2 b3 b4 b5 b6 b7 b8 b9 b10 b11 b12 b13 b14 b15 b16 b17
        have HI1 := Lib.hid hi1
        have HS1 := Lib.hid (HSA.out.trans hs1)
        clear hi1 hs1
        cases hb : B u (tget ts j)
        · have hno := foK_no B S HJK.out hb
          have hi2 := GI.out.less _ r _ _ HI1.out (by omega)
          have HNO := Lib.hid hno; have HB := Lib.hid hb; have HI2 := Lib.hid hi2
          clear hno hb hi2
          go_wp2_with (fail)
          go_ret
          exact ⟨ret_bool (by rw [HF.out, HNO.out]), by rw [HF.out, HNO.out]; exact HI2.out, HS1.out⟩
        · have HB := Lib.hid hb
          clear hb
          go_wp2_with (fail)
          refine (IH.out (wts (tget ts j).ks) (by have := HWM.out; have := HM.out; omega) (tget ts j).ks v.ka _ v.kc (r + wts (ts.drop (j + 1))) _ _ (Nat.le_refl _) rfl (Nat.le_trans HKID.out.cap.1 HKID.out.cap.2) (fun W hW => rowS_kids HKID.out.kids ((HS1.out.trans hW).below GI.out.low HB00.out (Nat.le_refl _))) (HS1.out.below GI.out.low HB00.out (Nat.le_refl _)) HCJ.out.2 HI1.out).mono ?_
          rintro e w2 ⟨rfl, hi3, hs3⟩
          have HI3 := Lib.hid hi3
          have HS3 := Lib.hid (HS1.out.trans hs3)
          clear hi3 hs3 b18
          cases hk : (foK B S (tget ts j).ks (S u (tget ts j))).1
          · have hno := foK_kno B S HJK.out HB.out hk
            have hi4 := GI.out.less _ r _ _ HI3.out (by omega)
            have HNO := Lib.hid hno; have HKB := Lib.hid hk; have HI4 := Lib.hid hi4
            clear hno hk hi4
            go_wp2_with (fail)
            go_ret
            exact ⟨ret_bool (by rw [HF.out, HNO.out]), by rw [HF.out, HNO.out]; exact HI4.out, HS3.out⟩
          · have hyes := foK_yes B S HJK.out HB.out hk
            have HYES := Lib.hid hyes; have HKB := Lib.hid hk
            clear hyes hk
            go_wp2_with (fail)
            go_roundw
            case rel => exact ⟨j + 1, _, by omega, by go_num, Lib.hid (HF.out.trans HYES.out), HI3, HS3⟩
            case measure => simp [intOf]; omega
      · obtain rfl : j = l := by omega
        have hr := HF.out
        have hi := HJ.out
        rw [List.drop_eq_nil_of_le (by rw [HL.out]; exact Nat.le_refl _)] at hr hi
        rw [foK_nil] at hr
        rw [wts_nil] at hi
        have HR := Lib.hid hr; have HI2 := Lib.hid hi
        clear hr hi
        go_wp2_with (fail)
        go_ret
        exact ⟨ret_bool (by rw [HR.out]), by rw [HR.out]; exact HI2.out, HS.out⟩
end Aterm
end Go.Proofs.YtolpdhkgkjnbfaaDoor
namespace Go.Proofs.YtolpdhkgkjnbfaaDoor
open Go.RowKit
set_option linter.unusedVariables false
set_option linter.unusedSimpArgs false
namespace Aterm
open Effect (RdI nget nget_at nget_mem ret_bool ret_i64 lt_of_block heap_alloc_new ofA)
open Rt (box_new box_at below_then)

theorem row_one {w0 W : World} {t : AT} {h : Hd} {v : V} {l g : Nat} (hT : AtIs w0 h v l t) (hr : W.rangeAt g 0 (acells h v l)) : RowS w0 W (some ⟨g, 0, none⟩) [t] := by
  obtain ⟨h1, h2, h3, h4, h5⟩ := hT
  subst h1 h2
  intro i hi
  have hi0 : i = 0 := by simp at hi; omega
  subst hi0
  exact ⟨g, 0, v, rfl, ⟨rfl, rfl, h3, h4, h5⟩, by rw [Nat.zero_mul, Nat.add_zero]; exact hr⟩
theorem allK_of1 (B : Hd → Nat → Bool) (t : AT) : allK B [t] = allT B t := by rw [allK_cons, allK_nil, Bool.and_true]
theorem row_new {W : World} {N : Nat} (hN : N = W.heap.size) {h : Hd} {v : V} {l : Nat} {ty : TypeId} : (W.alloc (.cells #[.int .u8 h.h.k, .int .u8 h.h.op, .int .i64 h.h.pl, .int .i64 h.h.n, .string h.h.name, .string h.h.arg, .string h.h.exn, .int .i64 h.rho, .slice v.ra h.rhos.length v.rc, .slice v.ea h.e.length v.ec, .int .u8 h.ty.h.k, .int .i64 h.ty.h.r, .slice v.tea h.ty.h.e.length v.tec, .slice v.tka h.ty.ks.length v.tkc, .int .u8 h.re.h.k, .int .i64 h.re.h.r, .slice v.sea h.re.h.e.length v.sec, .slice v.ska h.re.ks.length v.skc, .slice v.ka l v.kc] ty)).rangeAt N 0 (acells h v l) := by
  subst hN
  exact box_of.range
end Aterm
end Go.Proofs.YtolpdhkgkjnbfaaDoor
namespace Go.Proofs.YtolpdhkgkjnbfaaDoor
open Go.RowKit
set_option linter.unusedVariables false
set_option linter.unusedSimpArgs false
namespace Aterm
open Effect (RdI nget nget_at nget_mem ret_bool ret_i64 lt_of_block heap_alloc_new ofA)
open Rt (box_new box_at below_then)

theorem from1_walk (N : Nat) (x least : Int) (W : World) (hc : W.cell? ⟨N, 0, none⟩ = some (.int .i64 least)) :
    Calls Tryd.prog 53 #[.int .i64 x, .pointer (some ⟨N, 0, none⟩)] W fun e W' => e = .returned (.bool (decide (x < least))) ∧ W' = W := by
  go_enter Tryd.func53, Tryd.ntmps53
  go_wp2
  go_ret
  exact ⟨rfl, rfl⟩
set_option maxRecDepth 10000 in
set_option maxHeartbeats 3200000 in
theorem indexFrom_walk {n c : Nat} {a : Option Addr} {l : List Int} {w : World} (h : RdI w n a l) (hn : n ≤ 100000) (N : Nat) (least : Int) (hc : w.cell? ⟨N, 0, none⟩ = some (.int .i64 least)) :
    Calls Tryd.prog 63 #[.slice a n c, .func (.func 53) #[] #[.pointer (some ⟨N, 0, none⟩)]] w fun e w' => ∃ i : Int, e = .returned (.int .i64 i) ∧ (0 ≤ i ↔ ∃ x ∈ l, x < least) ∧ -1 ≤ i ∧ i ≤ 100000 ∧ w' = w := by
  have H := Lib.hid h; have HC := Lib.hid hc
  clear h hc
  go_enter Tryd.func63, Tryd.ntmps63
  go_wp2_with (fail)
  go_loopw [5, 8] (fun _ i wr => ∃ j : Nat, j ≤ n ∧ i = .int .i64 (j : Int) ∧ Hid (wr = w) ∧ Hid (∀ i, i < j → least ≤ nget l i)) (fun _ i _ => n - (intOf i).toNat)
  case atStart => exact ⟨0, Nat.zero_le _, rfl, Lib.hid rfl, Lib.hid (fun i hi => absurd hi (Nat.not_lt_zero _))⟩
  case round =>
    obtain ⟨j, hj, rfl, HW, HA⟩ := hrel
    by_cases hlt : j < n
    · have hjl : j < l.length := by rw [H.out.len]; exact hlt
      obtain ⟨b1, o1, rfl, e0⟩ := H.out.get j hjl
      rw [← HW.out] at e0
      have hf := from1_walk N (nget l j) least wr (by rw [HW.out]; exact HC.out)
      have HF := Lib.hid hf; have HJL := Lib.hid hjl
      clear hf hjl
      go_wp2_with (fail)
      refine HF.out.mono ?_
      rintro e wx ⟨rfl, hw⟩
      obtain rfl := hw.symm
      clear hw
      by_cases hx : nget l j < least
      · rw [decide_eq_true hx]
        have HX := Lib.hid hx
        clear hx
        go_wp2_with (fail)
        go_ret
        exact ⟨j, rfl, ⟨fun _ => ⟨_, nget_mem HJL.out, HX.out⟩, fun _ => by omega⟩, by omega, by omega, HW.out⟩
      · rw [decide_eq_false hx]
        have HX := Lib.hid hx
        clear hx
        go_wp2_with (fail)
        go_roundw
        case rel => exact ⟨j + 1, by omega, by go_num, HW, Lib.hid fun i hi => by
            by_cases e : i = j
            · rw [e]; have := HX.out; omega
            · exact HA.out i (by omega)⟩
        case measure => simp [intOf]; omega
    · obtain rfl : j = n := by omega
      go_wp2_with (fail)
      go_ret
      refine ⟨-1, rfl, ⟨fun h => by omega, ?_⟩, by omega, by omega, HW.out⟩
      rintro ⟨x, hx, hl⟩
      obtain ⟨i, hi, e⟩ := List.mem_iff_getElem.1 hx
      have h1 := HA.out i (by rw [← H.out.len]; exact hi)
      have := nget_at hi
      rw [List.getElem?_eq_getElem hi, e] at this
      rw [← Option.some.inj this] at h1
      omega
theorem containsFrom_walk {n c : Nat} {a : Option Addr} {l : List Int} {w : World} (h : RdI w n a l) (hn : n ≤ 100000) (N : Nat) (least : Int) (hc : w.cell? ⟨N, 0, none⟩ = some (.int .i64 least)) :
    Calls Tryd.prog 52 #[.slice a n c, .func (.func 53) #[] #[.pointer (some ⟨N, 0, none⟩)]] w fun e w' => e = .returned (.bool (decide (∃ x ∈ l, x < least))) ∧ w' = w := by
  have H := Lib.hid (indexFrom_walk (c := c) h hn N least hc)
  clear h hc
  go_enter Tryd.func52, Tryd.ntmps52
  go_wp2_with (fail)
  refine H.out.mono ?_
  rintro e wx ⟨i, rfl, hi, hi1, hi2, hw⟩
  obtain rfl := hw.symm
  clear hw
  have hd : decide (∃ x ∈ l, x < least) = decide (0 ≤ i) := decide_eq_decide.2 hi.symm
  have HD := Lib.hid hd
  clear hd hi
  go_wp2_with (fail)
  go_ret
  exact ⟨ret_bool HD.out.symm, rfl⟩
theorem from_walk {n c : Nat} {a : Option Addr} {l : List Int} {w : World} (h : RdI w n a l) (hn : n ≤ 100000) (least : Int) :
    Calls Tryd.prog 44 #[.int .i64 least, .slice a n c] w fun e w' => e = .returned (.bool (decide (∀ x ∈ l, least ≤ x))) ∧ Below w.heap.size w w' := by
  have hb : Below w.heap.size w (w.alloc (.cells #[.int .i64 least] 3)) := box_new _
  have H := Lib.hid (containsFrom_walk (c := c) (h.below hb) hn w.heap.size least (box_at (Below.refl _ _) 0 rfl)); have HB := Lib.hid hb
  have hd : decide (∀ x ∈ l, least ≤ x) = !decide (∃ x ∈ l, x < least) := by
    by_cases hx : ∃ x ∈ l, x < least
    · rw [decide_eq_true hx, decide_eq_false]
      · rfl
      · intro ha
        obtain ⟨x, h1, h2⟩ := hx
        have := ha x h1
        omega
    · rw [decide_eq_false hx, decide_eq_true]
      · rfl
      · intro x h1
        by_cases hl : x < least
        · exact absurd ⟨x, h1, hl⟩ hx
        · omega
  have HD := Lib.hid hd
  clear h hb hd
  go_enter Tryd.func44, Tryd.ntmps44
  go_wp2_with (fail)
  refine H.out.mono ?_
  rintro e wx ⟨rfl, hw⟩
  obtain rfl := hw.symm
  clear hw
  go_wp2_with (fail)
  go_ret
  exact ⟨ret_bool HD.out.symm, HB.out⟩
end Aterm
end Go.Proofs.YtolpdhkgkjnbfaaDoor
namespace Go.Proofs.YtolpdhkgkjnbfaaDoor
open Go.RowKit
set_option linter.unusedVariables false
set_option linter.unusedSimpArgs false
namespace Rt
open Effect (At AtOk AtsAt Rd ofA ret_i64 ret_bool)

theorem of_nil : ofA [] = [] := rfl
/-- What odd tells of a node. -/
def oddB (h : Hd) (n : Nat) : Bool := !nodeB h n
set_option maxRecDepth 10000 in
set_option maxHeartbeats 12800000 in
theorem odd_walk (h : Hd) (pe : Option Addr) (ne ce : Nat) (p : Option Addr) (l c : Nat) (w : World) (hk : 0 ≤ h.k ∧ h.k ≤ 255) (hl : l ≤ maxLen) (hne : h.e.length = ne) (he : EffIs w pe ne ce h.e) (hn : ne ≤ 100000) :
    Calls Tryd.prog 57 #[.agg #[.int .u8 h.k, .int .i64 h.r, .slice pe ne ce, .slice p l c]] w fun e w' => e = .returned (.bool (oddB h l)) ∧ Below w.heap.size w w' := by
  obtain ⟨k, v, e⟩ := h
  unfold maxLen at hl
  simp only at hk hne he
  have hmay := fun O : Obj => Effect.may_walk (c := ce) (he.below (box_new O)).rd hn
  have hlen : (ne = 0) = (e = []) := by rw [← hne, List.length_eq_zero_iff]
  have HMAY := Lib.hid hmay; have HLEN := Lib.hid hlen
  clear hmay hlen he hne
  have hcase : k = 1 ∨ k = 2 ∨ k = 3 ∨ k = 4 ∨ (k ≠ 1 ∧ k ≠ 2 ∧ k ≠ 3 ∧ k ≠ 4) := by omega
  rcases hcase with rfl | rfl | rfl | rfl | ⟨h1, h2, h3, h4⟩
  · by_cases hv : v = 0
    · subst hv
      by_cases hne : ne = 0
      · have he := HLEN.out.mp hne
        subst hne he
        by_cases hl0 : l = 0
        · subst hl0
          have hr : oddB ⟨1, 0, []⟩ 0 = false := by unfold oddB nodeB kidsN; rw [decide_eq_true (by simp [of_nil])]; rfl
          have HR := Lib.hid hr
          clear hr HMAY HLEN
          go_enter Tryd.func57, Tryd.ntmps57
          go_wp2
          go_ret
          exact ⟨ret_bool HR.out.symm, box_new _⟩
        · have hr : oddB ⟨1, 0, []⟩ l = true := by unfold oddB nodeB kidsN; rw [decide_eq_false (by simp; omega)]; rfl
          have b0 : ((l : Int) != 0) = true := by rw [bne_iff_ne]; omega
          have HR := Lib.hid hr
          clear hr HMAY HLEN hl0
          go_enter Tryd.func57, Tryd.ntmps57
          go_wp2
          go_ret
          exact ⟨ret_bool HR.out.symm, box_new _⟩
      · have hr : oddB ⟨1, 0, e⟩ l = true := by unfold oddB nodeB kidsN; rw [decide_eq_false (fun h => hne (HLEN.out.mpr (h.2.2.2.1 (by simp))))]; rfl
        have b0 : ((ne : Int) != 0) = true := by rw [bne_iff_ne]; omega
        have HR := Lib.hid hr
        clear hr HMAY HLEN hne
        go_enter Tryd.func57, Tryd.ntmps57
        go_wp2
        go_ret
        exact ⟨ret_bool HR.out.symm, box_new _⟩
    · have hr : oddB ⟨1, v, e⟩ l = true := by unfold oddB nodeB kidsN; rw [decide_eq_false (fun h => by have h1 := h.2.1; have h2 := h.2.2.1 rfl; simp only at h1 h2; omega)]; rfl
      have b0 : (v != 0) = true := by rw [bne_iff_ne]; exact hv
      have HR := Lib.hid hr
      clear hr HMAY HLEN hv
      go_enter Tryd.func57, Tryd.ntmps57
      go_wp2
      go_ret
      exact ⟨ret_bool HR.out.symm, box_new _⟩
  · by_cases hv : v < 0
    · have hr : oddB ⟨2, v, e⟩ l = true := by unfold oddB nodeB kidsN; rw [decide_eq_false (fun h => by have h1 := h.2.1; simp only at h1; omega)]; rfl
      have b0 : decide (v < 0) = true := decide_eq_true hv
      have HR := Lib.hid hr
      clear hr HMAY HLEN
      go_enter Tryd.func57, Tryd.ntmps57
      go_wp2
      go_ret
      exact ⟨ret_bool HR.out.symm, box_new _⟩
    · have b0 : decide (v < 0) = false := decide_eq_false hv
      by_cases hne : ne = 0
      · have he := HLEN.out.mp hne
        subst hne he
        by_cases hl0 : l = 2
        · subst hl0
          have hr : oddB ⟨2, v, []⟩ 2 = false := by unfold oddB nodeB kidsN; rw [decide_eq_true (by simp [of_nil]; omega)]; rfl
          have HR := Lib.hid hr
          clear hr HMAY HLEN
          go_enter Tryd.func57, Tryd.ntmps57
          go_wp2
          go_ret
          exact ⟨ret_bool HR.out.symm, box_new _⟩
        · have hr : oddB ⟨2, v, []⟩ l = true := by unfold oddB nodeB kidsN; rw [decide_eq_false (fun h => by have h1 := h.1; simp at h1; omega)]; rfl
          have b1 : ((l : Int) != 2) = true := by rw [bne_iff_ne]; omega
          have HR := Lib.hid hr
          clear hr HMAY HLEN hl0
          go_enter Tryd.func57, Tryd.ntmps57
          go_wp2
          go_ret
          exact ⟨ret_bool HR.out.symm, box_new _⟩
      · have hr : oddB ⟨2, v, e⟩ l = true := by unfold oddB nodeB kidsN; rw [decide_eq_false (fun h => hne (HLEN.out.mpr (h.2.2.2.1 (by simp))))]; rfl
        have b1 : ((ne : Int) != 0) = true := by rw [bne_iff_ne]; omega
        have HR := Lib.hid hr
        clear hr HMAY HLEN hne
        go_enter Tryd.func57, Tryd.ntmps57
        go_wp2
        go_ret
        exact ⟨ret_bool HR.out.symm, box_new _⟩
  · by_cases hv : v < 0
    · have hr : oddB ⟨3, v, e⟩ l = true := by unfold oddB nodeB kidsN; rw [decide_eq_false (fun h => by have h1 := h.2.1; simp only at h1; omega)]; rfl
      have b0 : decide (v < 0) = true := decide_eq_true hv
      have HR := Lib.hid hr
      clear hr HMAY HLEN
      go_enter Tryd.func57, Tryd.ntmps57
      go_wp2
      go_ret
      exact ⟨ret_bool HR.out.symm, box_new _⟩
    · have b0 : decide (v < 0) = false := decide_eq_false hv
      by_cases hne : ne = 0
      · have he := HLEN.out.mp hne
        subst hne he
        by_cases hl0 : l = 1
        · subst hl0
          have hr : oddB ⟨3, v, []⟩ 1 = false := by unfold oddB nodeB kidsN; rw [decide_eq_true (by simp [of_nil]; omega)]; rfl
          have HR := Lib.hid hr
          clear hr HMAY HLEN
          go_enter Tryd.func57, Tryd.ntmps57
          go_wp2
          go_ret
          exact ⟨ret_bool HR.out.symm, box_new _⟩
        · have hr : oddB ⟨3, v, []⟩ l = true := by unfold oddB nodeB kidsN; rw [decide_eq_false (fun h => by have h1 := h.1; simp at h1; omega)]; rfl
          have b1 : ((l : Int) != 1) = true := by rw [bne_iff_ne]; omega
          have HR := Lib.hid hr
          clear hr HMAY HLEN hl0
          go_enter Tryd.func57, Tryd.ntmps57
          go_wp2
          go_ret
          exact ⟨ret_bool HR.out.symm, box_new _⟩
      · have hr : oddB ⟨3, v, e⟩ l = true := by unfold oddB nodeB kidsN; rw [decide_eq_false (fun h => hne (HLEN.out.mpr (h.2.2.2.1 (by simp))))]; rfl
        have b1 : ((ne : Int) != 0) = true := by rw [bne_iff_ne]; omega
        have HR := Lib.hid hr
        clear hr HMAY HLEN hne
        go_enter Tryd.func57, Tryd.ntmps57
        go_wp2
        go_ret
        exact ⟨ret_bool HR.out.symm, box_new _⟩
  · by_cases hv : v < 0
    · have hr : oddB ⟨4, v, e⟩ l = true := by unfold oddB nodeB kidsN; rw [decide_eq_false (fun h => by have h1 := h.2.1; simp only at h1; omega)]; rfl
      have b0 : decide (v < 0) = true := decide_eq_true hv
      have HR := Lib.hid hr
      clear hr HMAY HLEN
      go_enter Tryd.func57, Tryd.ntmps57
      go_wp2
      go_ret
      exact ⟨ret_bool HR.out.symm, box_new _⟩
    · have b0 : decide (v < 0) = false := decide_eq_false hv
      cases hm : decide (e = ofA e)
      · have hr : oddB ⟨4, v, e⟩ l = true := by unfold oddB nodeB kidsN; rw [decide_eq_false (fun h => (of_decide_eq_false hm) h.2.2.2.2)]; rfl
        have HR := Lib.hid hr; have HMM := Lib.hid hm
        clear hr HLEN hm
        go_enter Tryd.func57, Tryd.ntmps57
        go_wp2_with (fail)
        refine (HMAY.out _).mono ?_
        rintro e1 w1 ⟨rfl, hb1⟩
        obtain ⟨c0, c1, c2, c3⟩ := box4 (N := w.heap.size) rfl hb1
        have HB := Lib.hid (below_then (box_new _) hb1 (by simp))
        clear hb1
        rw [HMM.out]
        go_wp2
        go_ret
        exact ⟨ret_bool HR.out.symm, HB.out⟩
      · by_cases hl2 : l = 2
        · subst hl2
          have hr : oddB ⟨4, v, e⟩ 2 = false := by unfold oddB nodeB kidsN; rw [decide_eq_true (by have := of_decide_eq_true hm; simp; exact ⟨by omega, this⟩)]; rfl
          have HR := Lib.hid hr; have HMM := Lib.hid hm
          clear hr HLEN hm
          go_enter Tryd.func57, Tryd.ntmps57
          go_wp2_with (fail)
          refine (HMAY.out _).mono ?_
          rintro e1 w1 ⟨rfl, hb1⟩
          obtain ⟨c0, c1, c2, c3⟩ := box4 (N := w.heap.size) rfl hb1
          have HB := Lib.hid (below_then (box_new _) hb1 (by simp))
          clear hb1
          rw [HMM.out]
          go_wp2
          go_ret
          exact ⟨ret_bool HR.out.symm, HB.out⟩
        · have hr : oddB ⟨4, v, e⟩ l = true := by unfold oddB nodeB kidsN; rw [decide_eq_false (fun h => by have h1 := h.1; simp at h1; omega)]; rfl
          have b1 : ((l : Int) != 2) = true := by rw [bne_iff_ne]; omega
          have HR := Lib.hid hr; have HMM := Lib.hid hm
          clear hr HLEN hm hl2
          go_enter Tryd.func57, Tryd.ntmps57
          go_wp2_with (fail)
          refine (HMAY.out _).mono ?_
          rintro e1 w1 ⟨rfl, hb1⟩
          obtain ⟨c0, c1, c2, c3⟩ := box4 (N := w.heap.size) rfl hb1
          have HB := Lib.hid (below_then (box_new _) hb1 (by simp))
          clear hb1
          rw [HMM.out]
          go_wp2
          go_ret
          exact ⟨ret_bool HR.out.symm, HB.out⟩
  · have hr : oddB ⟨k, v, e⟩ l = true := by unfold oddB nodeB kidsN; rw [decide_eq_false (fun h => by have h5 := h.1; simp only [if_neg h1, if_neg h3, if_neg (show ¬ (k = 2 ∨ k = 4) from fun e => e.elim h2 h4)] at h5; omega)]; rfl
    have b1 : (k == 1) = false := by simpa using h1
    have b2 : (k == 2) = false := by simpa using h2
    have b3 : (k == 3) = false := by simpa using h3
    have b4 : (k == 4) = false := by simpa using h4
    have HR := Lib.hid hr
    clear hr HMAY HLEN h1 h2 h3 h4
    go_enter Tryd.func57, Tryd.ntmps57
    go_wp2
    go_ret
    exact ⟨ret_bool HR.out.symm, box_new _⟩

set_option maxRecDepth 10000 in
set_option maxHeartbeats 6400000 in
theorem someOdd_walk :
    ∀ (m : Nat) (ts : List RT) (p : Option Addr) (l d : Nat) (w : World), wts ts ≤ m → ts.length = l → l ≤ maxLen → Kids w p ts → allK (effB 100000) ts = true →
    Calls Tryd.prog 56 #[.func (.func 57) #[] #[], .slice p l d] w fun e w' => e = .returned (.bool (!mayK ts)) ∧ Below w.heap.size w w' := by
  intro m
  induction m using Nat.strongRecOn with
  | _ m ih =>
    intro ts p l d w hm hl hlm hk hi
    unfold maxLen at hlm
    have HM := Lib.hid hm; have HL := Lib.hid hl; have HK := Lib.hid hk; have HI := Lib.hid hi; have IH := Lib.hid ih
    clear hm hl hk hi ih
    go_enter Tryd.func56, Tryd.ntmps56
    go_wp2_with (fail)
    go_loopw [6, 9] (fun _ i wr => ∃ j : Nat, j ≤ l ∧ i = .int .i64 j ∧ Hid (mayK ts = mayK (ts.drop j)) ∧ Hid (Below w.heap.size w wr)) (fun _ i _ => l - (intOf i).toNat)
    case atStart => exact ⟨0, Nat.zero_le _, rfl, Lib.hid (by rw [List.drop_zero]), Lib.hid (Below.refl _ _)⟩
    case round =>
      obtain ⟨j, hj, rfl, HF, HS⟩ := hrel
      by_cases hlt : j < l
      · have hjk : j < ts.length := by rw [HL.out]; exact hlt
        obtain ⟨b, o, q, c', qe, ce', rfl, hkid, c0, c1, c2, c3⟩ := (HK.out.stay HS.out).get j hjk
        have hwm : wts (tget ts j).ks < wts ts := by have h1 := wts_get hjk; have h2 := wt_ks (tget ts j); omega
        have hef := allK_get _ hjk HI.out
        rw [allT_eq, Bool.and_eq_true] at hef
        have hodd := fun O : Obj => odd_walk (tget ts j).h qe (tget ts j).h.e.length ce' q (tget ts j).ks.length c' (wr.alloc O) hkid.ok.k (Nat.le_trans hkid.cap.1 hkid.cap.2) rfl (hkid.eff.below (box_new O)) (eff_iff.1 hef.1).1
        have HJK := Lib.hid hjk; have HKID := Lib.hid hkid; have HWM := Lib.hid hwm; have HODD := Lib.hid hodd; have HEF := Lib.hid hef.2
        clear hjk hkid hwm hodd hef
        go_wp2_with (fail)
        refine (HODD.out _).mono ?_
        rintro e w1 ⟨rfl, hb1⟩
        obtain ⟨b0, b1, b2, b3⟩ := box4 (N := wr.heap.size) rfl hb1
        have hb1' := (box_new (w := wr) (.cells #[.int .u8 (tget ts j).h.k, .int .i64 (tget ts j).h.r, .slice qe (tget ts j).h.e.length ce', .slice q (tget ts j).ks.length c'] 31)).trans (hb1.mono (by simp))
        have HB1 := Lib.hid (below_then HS.out hb1' HS.out.size)
        have HW1 := Lib.hid hb1'
        clear hb1 hb1' c0 c1 c2 c3
        cases hb : nodeB (tget ts j).h (tget ts j).ks.length
        · have hno : mayK (ts.drop j) = false := allK_no nodeB HJK.out hb
          have hod : oddB (tget ts j).h (tget ts j).ks.length = true := by unfold oddB; rw [hb]; rfl
          have HNO := Lib.hid hno; have HOD := Lib.hid hod
          clear hno hb hod
          rw [HOD.out]
          go_wp2
          go_ret
          exact ⟨ret_bool (by rw [HF.out, HNO.out]; rfl), HB1.out⟩
        · have hod : oddB (tget ts j).h (tget ts j).ks.length = false := by unfold oddB; rw [hb]; rfl
          have HB := Lib.hid hb; have HOD := Lib.hid hod
          clear hb hod
          rw [HOD.out]
          go_wp2_with (fail)
          refine (IH.out (wts (tget ts j).ks) (by have := HWM.out; have := HM.out; omega) (tget ts j).ks q _ c' _ (Nat.le_refl _) rfl (Nat.le_trans HKID.out.cap.1 HKID.out.cap.2) (HKID.out.below HW1.out).kids HEF.out).mono ?_
          rintro e w2 ⟨rfl, hb2⟩
          have HB2 := Lib.hid (below_then HB1.out hb2 HB1.out.size)
          clear hb2 b0 b1 b2 b3
          cases hk : mayK (tget ts j).ks
          · have hno : mayK (ts.drop j) = false := allK_kno nodeB HJK.out hk
            have HNO := Lib.hid hno
            clear hno hk
            go_wp2
            go_ret
            exact ⟨ret_bool (by rw [HF.out, HNO.out]; rfl), HB2.out⟩
          · have hyes : mayK (ts.drop j) = mayK (ts.drop (j + 1)) := allK_yes nodeB HJK.out HB.out hk
            have HYES := Lib.hid hyes
            clear hyes hk
            go_wp2
            go_roundw
            case rel => exact ⟨j + 1, by omega, by go_num, Lib.hid (HF.out.trans HYES.out), HB2⟩
            case measure => simp [intOf]; omega
      · obtain rfl : j = l := by omega
        have hr := HF.out
        rw [List.drop_eq_nil_of_le (by rw [HL.out]; exact Nat.le_refl _), mayK_nil] at hr
        have HR := Lib.hid hr
        clear hr
        go_wp2
        go_ret
        exact ⟨ret_bool (by rw [HR.out]; rfl), HS.out⟩

set_option maxHeartbeats 1600000 in
theorem may_walk (ts : List RT) (p : Option Addr) (l d : Nat) (w : World) (hl : ts.length = l) (hlm : l ≤ maxLen) (hk : Kids w p ts) (he : allK (effB 100000) ts = true) :
    Calls Tryd.prog 46 #[.slice p l d] w fun e w' => e = .returned (.bool (mayK ts)) ∧ Below w.heap.size w w' := by
  have ha := someOdd_walk (wts ts) ts p l d w (Nat.le_refl _) hl hlm hk he
  have HA := Lib.hid ha
  clear ha hl hlm hk he
  generalize mayK ts = X at *
  go_enter Tryd.func46, Tryd.ntmps46
  go_wp2_with (fail)
  refine (HA.out).mono ?_
  rintro e w1 ⟨rfl, hb1⟩
  have HB1 := Lib.hid hb1
  clear hb1
  cases X
  all_goals
    go_wp2_with (fail)
    go_ret
    exact ⟨rfl, HB1.out⟩
end Rt
end Go.Proofs.YtolpdhkgkjnbfaaDoor
