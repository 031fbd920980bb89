import Derived.Test.YtkfkpjngiffamaaGreatDoorGC09
import Derived.Test.YtkfkpjngiffamaaGreatDoorGC04
import Derived.Lib.AppendIntMem
import Derived.Lib.LaidTab
import Derived.Lib.SmallJoins
import Derived.Laws.BytesArg
import Derived.LoopTactic
import Derived.Test.YtkfkpjngiffamaaGreatDoorGC06
import Derived.Test.YtkfkpjngiffamaaGreatDoorGC08
import Derived.Test.YtkfkpjngiffamaaGreatDoorGC07
import Derived.IntWalk
import Derived.Laws.EntriesVeiled
namespace Go.Proofs.YtkfkpjngiffamaaGreatDoor
open Go.RowKit
set_option linter.unusedVariables false
set_option linter.unusedSimpArgs false
namespace Aterm
open Effect (At AtOk AtsAt Rd RdI ofA)
open Words (nameB exnB)

def likeK (k : Int) : Int := if k = 17 then 4 else if k = 18 then 2 else k
def likeH (h : Term.Hd) : Term.Hd := { h with k := likeK h.k }
def headOk (h : Term.Hd) (n : Nat) : Bool := Term.nodeB (likeH h) n
def rhoOk (h : Hd) : Bool := if h.h.k = 3 ∨ h.h.k = 6 ∨ h.h.k = 11 ∨ h.h.k = 13 ∨ h.h.k = 18 then decide (0 ≤ h.rho) else if h.h.k = 17 then decide (1 ≤ h.rho) else decide (h.rho = 0)
def rhosOk (h : Hd) : Bool := if h.h.k = 13 then !metO [] h.rhos && decide (∀ x ∈ h.rhos, 1 ≤ x) else if h.h.k = 18 then decide (∀ x ∈ h.rhos, 0 ≤ x) else decide (h.rhos.length = 0)
def effK (k : Int) : Bool := decide (k = 11 ∨ k = 13 ∨ k = 18)
def typK (k : Int) : Bool := decide (k = 11 ∨ k = 13 ∨ k = 15)
def effOk (h : Hd) : Bool := if effK h.h.k = true then decide (h.e = ofA h.e) else decide (h.e.length = 0)
def typOk (h : Hd) : Bool := if typK h.h.k = true then Rt.mayT h.ty else plainB h.ty
def resOk (h : Hd) : Bool := if h.h.k = 13 then Rt.mayT h.re else plainB h.re
def nodeB (h : Hd) (n : Nat) : Bool := headOk h.h n && rhoOk h && rhosOk h && effOk h && typOk h && resOk h
def mayT (t : AT) : Bool := decide (wt t ≤ 40000) && allT nodeB t

theorem kids_le {k : Int} : Term.kidsN k ≤ 3 := by unfold Term.kidsN; repeat' split; all_goals omega
theorem head_many {h : Term.Hd} {n : Nat} (hn : 3 < n) : headOk h n = false := by
 unfold headOk
 exact Term.nodeB_no (fun hh => by have := kids_le (k := (likeH h).k); have := hh.1; omega)

mutual
def foT {σ : Type} (B : σ → AT → Bool) (S : σ → AT → σ) : AT → σ → Bool × σ
 | .node h l, s => if B s (.node h l) = true then foK B S l (S s (.node h l)) else (false, S s (.node h l))
def foK {σ : Type} (B : σ → AT → Bool) (S : σ → AT → σ) : List AT → σ → Bool × σ
 | [], s => (true, s)
 | t :: ts, s => if (foT B S t s).1 = true then foK B S ts (foT B S t s).2 else (false, (foT B S t s).2)
end
section
variable {σ : Type} (B : σ → AT → Bool) (S : σ → AT → σ)
theorem foT_eq (t : AT) (s : σ) : foT B S t s = if B s t = true then foK B S t.ks (S s t) else (false, S s t) := by cases t; unfold foT; rfl
theorem foK_nil (s : σ) : foK B S [] s = (true, s) := by unfold foK; rfl
theorem foK_cons (t : AT) (ts : List AT) (s : σ) : foK B S (t :: ts) s = if (foT B S t s).1 = true then foK B S ts (foT B S t s).2 else (false, (foT B S t s).2) := by conv => lhs; unfold foK
theorem foK_no {ts : List AT} {j : Nat} {u : σ} (hj : j < ts.length) (h : B u (tget ts j) = false) : foK B S (ts.drop j) u = (false, S u (tget ts j)) := by
 rw [drop_tget ts j hj, foK_cons, foT_eq]
 simp [h]
theorem foK_kno {ts : List AT} {j : Nat} {u : σ} (hj : j < ts.length) (h : B u (tget ts j) = true) (hk : (foK B S (tget ts j).ks (S u (tget ts j))).1 = false) : foK B S (ts.drop j) u = (false, (foK B S (tget ts j).ks (S u (tget ts j))).2) := by
 rw [drop_tget ts j hj, foK_cons, foT_eq, if_pos h, if_neg (by rw [hk]; exact Bool.false_ne_true)]
theorem foK_yes {ts : List AT} {j : Nat} {u : σ} (hj : j < ts.length) (h : B u (tget ts j) = true) (hk : (foK B S (tget ts j).ks (S u (tget ts j))).1 = true) : foK B S (ts.drop j) u = foK B S (ts.drop (j + 1)) (foK B S (tget ts j).ks (S u (tget ts j))).2 := by
 rw [drop_tget ts j hj, foK_cons, foT_eq, if_pos h, if_pos hk]
def foL : List AT → σ → Bool × σ
 | [], s => (true, s)
 | t :: ts, s => if B s t = true then foL ts (S s t) else (false, S s t)
theorem foL_append (l m : List AT) (s : σ) : foL B S (l ++ m) s = if (foL B S l s).1 = true then foL B S m (foL B S l s).2 else foL B S l s := by
 induction l generalizing s with
 | nil => simp [foL]
 | cons t ts ih =>
  rw [List.cons_append, foL, foL]
  by_cases hb : B s t = true
  ·rw [if_pos hb, if_pos hb]; exact ih _
  ·rw [if_neg hb, if_neg hb, if_neg Bool.false_ne_true]
theorem fo_flat : ∀ m : Nat, (∀ t s, wt t ≤ m → foT B S t s = foL B S (flatT t) s) ∧ (∀ ts s, wts ts ≤ m → foK B S ts s = foL B S (flatK ts) s) := by
 intro m
 induction m with
 | zero =>
  refine ⟨fun t s h => by have := wt_pos t; omega, fun ts s h => ?_⟩
  cases ts with
  | nil => rw [flatK_nil, foK_nil]; rfl
  | cons t ts => rw [wts_cons] at h; have := wt_pos t; omega
 | succ m ih =>
  have hT : ∀ t s, wt t ≤ m + 1 → foT B S t s = foL B S (flatT t) s := by
   intro t s h
   have hk := wt_ks t
   rw [flatT_eq, foT_eq, foL]
   split
   ·exact ih.2 t.ks _ (by omega)
   ·rfl
  refine ⟨hT, fun ts => ?_⟩
  induction ts with
  | nil => intro s _; rw [flatK_nil, foK_nil]; rfl
  | cons t ts ihs =>
   intro s h
   rw [wts_cons] at h
   rw [flatK_cons, foK_cons, foL_append, ← hT t s (by omega)]
   split
   ·exact ihs _ (by omega)
   ·rename_i hh
    have : (foT B S t s).1 = false := by simpa using hh
    rw [← this]
theorem foT_flat (t : AT) (s : σ) : foT B S t s = foL B S (flatT t) s := (fo_flat B S (wt t)).1 t s (Nat.le_refl _)
end
def mayB (s : Int) (t : AT) : Bool := decide (0 ≤ s - 1) && nodeB t.h t.ks.length
def mayS (s : Int) (_ : AT) : Int := s - 1
theorem foL_may : ∀ (l : List AT) (s : Int), 0 ≤ s → (foL mayB mayS l s).1 = (decide ((l.length : Int) ≤ s) && l.all fun t => nodeB t.h t.ks.length)
 | [], s, hs => by rw [foL]; simp; exact hs
 | t :: ts, s, hs => by
  rw [foL]
  by_cases h0 : 0 ≤ s - 1
  ·have hb : mayB s t = nodeB t.h t.ks.length := by unfold mayB; rw [decide_eq_true h0, Bool.true_and]
   cases hn : nodeB t.h t.ks.length
   ·rw [hb, hn, if_neg Bool.false_ne_true]
    simp [hn]
   ·rw [hb, hn, if_pos rfl, foL_may ts (mayS s t) h0, List.all_cons, hn, Bool.true_and, List.length_cons]
    congr 1
    rw [decide_eq_decide]
    unfold mayS
    omega
  ·have hb : mayB s t = false := by unfold mayB; rw [decide_eq_false h0, Bool.false_and]
   rw [hb, if_neg Bool.false_ne_true, decide_eq_false (by rw [List.length_cons]; omega), Bool.false_and]
section
variable (B : Hd → Nat → Bool)
theorem all_flat : ∀ m : Nat, (∀ t, wt t ≤ m → allT B t = (flatT t).all fun t => B t.h t.ks.length) ∧ (∀ ts, wts ts ≤ m → allK B ts = (flatK ts).all fun t => B t.h t.ks.length) := by
 intro m
 induction m with
 | zero =>
  refine ⟨fun t h => by have := wt_pos t; omega, fun ts h => ?_⟩
  cases ts with
  | nil => rw [flatK_nil, allK_nil]; rfl
  | cons t ts => rw [wts_cons] at h; have := wt_pos t; omega
 | succ m ih =>
  have hT : ∀ t, wt t ≤ m + 1 → allT B t = (flatT t).all fun t => B t.h t.ks.length := by
   intro t h
   have hk := wt_ks t
   rw [allT_eq, flatT_eq, List.all_cons, ih.2 t.ks (by omega)]
  refine ⟨hT, fun ts => ?_⟩
  induction ts with
  | nil => intro _; rw [flatK_nil, allK_nil]; rfl
  | cons t ts ihs =>
   intro h
   rw [wts_cons] at h
   rw [allK_cons, flatK_cons, List.all_append, hT t (by omega), ihs (by omega)]
theorem allT_flat (t : AT) : allT B t = (flatT t).all fun t => B t.h t.ks.length := (all_flat B (wt t)).1 t (Nat.le_refl _)
end
theorem fo_may (t : AT) : (foT mayB mayS t 40000).1 = mayT t := by
 rw [foT_flat, foL_may _ _ (by omega), flatT_len, ← allT_flat]
 unfold mayT
 congr 1
 rw [decide_eq_decide]
 omega

def metI : List Int → List Int → List Int
 | met, [] => met
 | met, x :: xs => if met.contains x = true then met else metI (met ++ [x]) xs
theorem metI_no : ∀ (xs met : List Int), metO met xs = false → metI met xs = met ++ xs
 | [], met, _ => by rw [metI, List.append_nil]
 | x :: xs, met, h => by
  rw [metO, Bool.or_eq_false_iff] at h
  rw [metI, if_neg (by rw [h.1]; exact Bool.false_ne_true), metI_no xs _ h.2, List.append_assoc]; rfl
def apS (s : List Int × Option Int) (t : AT) : List Int × Option Int := (metI s.1 (ownH t.h), if metO s.1 (ownH t.h) = true then some t.h.h.pl else s.2)
def apB (s : List Int × Option Int) (t : AT) : Bool := !metO s.1 (ownH t.h)
theorem foL_apart : ∀ (l : List AT) (met : List Int), (foL apB apS l (met, none)).1 = (apartL l met).isNone ∧ (foL apB apS l (met, none)).2.2 = apartL l met
 | [], met => ⟨rfl, rfl⟩
 | t :: ts, met => by
  rw [foL, apartL]
  by_cases hm : metO met (ownH t.h) = true
  ·have hb : apB (met, none) t = false := by unfold apB; simp only; rw [hm]; rfl
   have hs : (apS (met, none) t).2 = some t.h.h.pl := by unfold apS; simp only; rw [if_pos hm]
   rw [hb, if_neg Bool.false_ne_true, if_pos hm]
   exact ⟨rfl, hs⟩
  ·have hm' : metO met (ownH t.h) = false := by simpa using hm
   have hb : apB (met, none) t = true := by unfold apB; simp only; rw [hm']; rfl
   have hs : apS (met, none) t = (met ++ ownH t.h, none) := by unfold apS; simp only; rw [if_neg hm, metI_no _ _ hm']
   rw [hb, if_pos rfl, if_neg hm, hs]
   exact foL_apart ts _
theorem fo_apart (t : AT) : (foT apB apS t ([], none)).1 = (apartT t).isNone ∧ (foT apB apS t ([], none)).2.2 = apartT t := by
 rw [foT_flat]
 exact foL_apart _ _
end Aterm
end Go.Proofs.YtkfkpjngiffamaaGreatDoor
namespace Go.Proofs.YtkfkpjngiffamaaGreatDoor
open Go.RowKit
set_option linter.unusedVariables false
namespace Effect

def least : Int := -9223372036854775808
end Effect
end Go.Proofs.YtkfkpjngiffamaaGreatDoor

namespace Go.Proofs.YtkfkpjngiffamaaGreatDoor
open Go.RowKit
set_option linter.unusedVariables false
set_option linter.unusedSimpArgs false
namespace Effect

theorem joinT_size (ss : List ByteArray) (h : ∀ s ∈ ss, s.size ≤ 1004) : (joinT ss).size ≤ 1007 * ss.length := by
 have h1 : (joinT ss).size = (Lib.join (ss.map (·.data.toList)) [32, 44, 32]).length := by unfold joinT; simp [ByteArray.size]
 rw [h1]
 exact join_len ss h
end Effect
end Go.Proofs.YtkfkpjngiffamaaGreatDoor
namespace Go.Proofs.YtkfkpjngiffamaaGreatDoor
open Go.RowKit
set_option linter.unusedVariables false
set_option linter.unusedSimpArgs false
namespace Rt
open Effect (At AtOk AtsAt Rd ofA textE Sh digs)
open Types (jb bl wInt wOpen wShut wStar wRef wArrow bl_jb bl_append bl_inj bl_app bl_cons bl_one jb_one jb_list)

def wAt : ByteArray := ⟨#[64]⟩
def wBang : ByteArray := ⟨#[33]⟩
def kw (ks : List (List ByteArray)) (i : Nat) : List ByteArray := ks.getD i []
def comb (h : Hd) (ks : List (List ByteArray)) : List ByteArray :=
 if h.k = 1 then [wInt] else wOpen :: ((if h.k = 2 then kw ks 0 ++ (wStar :: kw ks 1) else if h.k = 3 then wRef :: kw ks 0 else kw ks 0 ++ (wArrow :: (kw ks 1 ++ [wBang, textE (ofA h.e)]))) ++ [wAt, digs h.r, wShut])
mutual
def wordsT : RT → List ByteArray
 | .node h l => comb h (wordsK l)
def wordsK : List RT → List (List ByteArray)
 | [] => []
 | t :: ts => wordsT t :: wordsK ts
end
theorem wordsT_eq (t : RT) : wordsT t = comb t.h (wordsK t.ks) := by cases t; conv => lhs; unfold wordsT
                                                                     rfl
theorem wordsK_map : ∀ ts : List RT, wordsK ts = ts.map wordsT
 | [] => by unfold wordsK; rfl
 | t :: ts => by unfold wordsK; rw [wordsK_map ts]; rfl
theorem kw_get {ts : List RT} {i : Nat} (h : i < ts.length) : kw (wordsK ts) i = wordsT (tget ts i) := by
 unfold kw tget
 rw [wordsK_map, List.getD_eq_getElem?_getD, List.getElem?_map, List.getElem?_eq_getElem h, List.getD_eq_getElem?_getD, List.getElem?_eq_getElem h]
 rfl
theorem words_pos : ∀ m : Nat, ∀ t, wt t ≤ m → mayT t = true → 1 ≤ (wordsT t).length ∧ (wordsT t).length ≤ 8 * wt t := by
 intro m
 induction m with
 | zero => intro t h; have := wt_pos t; omega
 | succ m ih =>
  intro t h hm
  obtain ⟨hk, -, -, -, -⟩ := may_node hm
  rw [wordsT_eq]
  unfold comb
  have hp := wt_pos t
  rcases hk with ⟨hk, hl, -⟩ | ⟨hk, hl⟩ | ⟨hk, hl⟩
  ·simp [hk]; omega
  ·have h0 := ih (tget t.ks 0) (by have := wt1 hl; omega) (may_kid hm (by omega))
   have hw := wt1 hl
   simp only [hk, kw_get (show 0 < t.ks.length by omega)]
   simp
   omega
  ·have h0 := ih (tget t.ks 0) (by have := wt2 hl; omega) (may_kid hm (by omega))
   have h1 := ih (tget t.ks 1) (by have := wt2 hl; omega) (may_kid hm (by omega))
   have hw := wt2 hl
   rcases hk with hk | hk
   all_goals
    simp only [hk, kw_get (show 0 < t.ks.length by omega), kw_get (show 1 < t.ks.length by omega)]
    simp
    omega
theorem words_le {t : RT} (h : mayT t = true) : (wordsT t).length ≤ 8 * wt t := (words_pos _ t (Nat.le_refl _) h).2
def Short (n : Nat) (ss : List ByteArray) : Prop := ∀ s ∈ ss, s.size ≤ n
theorem Short.append {n : Nat} {a b : List ByteArray} (h : Short n a) (k : Short n b) : Short n (a ++ b) := fun s hs => by
 rcases List.mem_append.1 hs with hs | hs
 ·exact h s hs
 ·exact k s hs
theorem Short.cons {n : Nat} {x : ByteArray} {a : List ByteArray} (hx : x.size ≤ n) (h : Short n a) : Short n (x :: a) := fun s hs => by
 rcases List.mem_cons.1 hs with rfl | hs
 ·exact hx
 ·exact h s hs
theorem Short.nil (n : Nat) : Short n [] := fun s hs => by cases hs
theorem joinTail_len : ∀ r : List (List UInt8), (Lib.joinTail [32] r).length = (r.map (fun x => 1 + x.length)).sum
 | [] => rfl
 | x :: r => by
  have ih := joinTail_len r
  unfold Lib.joinTail at ih ⊢
  rw [List.map_cons, List.flatten_cons, List.length_append, ih, List.map_cons, List.sum_cons, List.length_append]
  rfl
theorem sum_len (n : Nat) : ∀ r : List ByteArray, (∀ s ∈ r, s.size ≤ n) → ((r.map (·.data.toList)).map (fun x => 1 + x.length)).sum ≤ (n + 1) * r.length
 | [], _ => Nat.le_refl _
 | y :: r, h => by
  have hy : y.data.toList.length ≤ n := h y (List.mem_cons_self ..)
  have ih := sum_len n r (fun s hs => h s (List.mem_cons_of_mem _ hs))
  rw [List.map_cons, List.map_cons, List.sum_cons]
  show 1 + y.data.toList.length + _ ≤ (n + 1) * (r.length + 1)
  rw [Nat.mul_succ]
  omega
theorem jb_size {n : Nat} (ss : List ByteArray) (h : Short n ss) : (jb ss).size ≤ (n + 1) * ss.length := by
 have e : (jb ss).size = (Lib.join (ss.map (·.data.toList)) [32]).length := by rw [← jb_list]; rfl
 rw [e]
 cases ss with
 | nil => simp [Lib.join_nil]
 | cons x r =>
  rw [List.map_cons, Lib.join_cons, List.length_append, joinTail_len]
  have hx : x.data.toList.length ≤ n := h x (List.mem_cons_self ..)
  have hr := sum_len n r (fun s hs => h s (List.mem_cons_of_mem _ hs))
  show _ ≤ (n + 1) * (r.length + 1)
  rw [Nat.mul_succ]
  omega
theorem sh_of {x : At} (hx : AtOk x) (ha : Effect.atomB x = true) {n : Nat} (hn : x.x.size ≤ n) (hnn : n ≤ 1000) : Sh x := by
 refine ⟨?_, hx.r.2, by omega⟩
 unfold Effect.atomB at ha
 split at ha
 ·rw [Bool.and_eq_true] at ha
  have := of_decide_eq_true ha.1
  omega
 ·rw [Bool.and_eq_true, Bool.and_eq_true] at ha
  exact of_decide_eq_true ha.1.2
theorem sh_eff {e : List At} (hok : ∀ x ∈ e, AtOk x) {n : Nat} (hn : ∀ x ∈ e, x.x.size ≤ n) (hnn : n ≤ 1000) : ∀ x ∈ ofA e, Sh x := fun x hx => by
 obtain ⟨h1, h2⟩ := (Effect.mem_of _ _).1 hx
 exact sh_of (hok x h1) h2 (hn x h1) hnn
theorem textE_size {e : List At} (h : ∀ x ∈ ofA e, Sh x) {n : Nat} (hn : e.length ≤ n) : (textE (ofA e)).size ≤ 1007 * n + 4 := by
 unfold textE
 split
 ·show 4 ≤ _; omega
 ·have h1 := Effect.joinT_size ((ofA e).map Effect.textA) (fun s hs => by
   obtain ⟨x, hx, rfl⟩ := List.mem_map.1 hs
   exact Effect.textA_size (h x hx))
  rw [List.length_map] at h1
  have h2 := Effect.of_le e
  have h3 : 1007 * (ofA e).length ≤ 1007 * n := Nat.mul_le_mul_left _ (by omega)
  omega
theorem words_short {n : Nat} (hnn : n ≤ 1000) : ∀ m : Nat, ∀ t : RT, wt t ≤ m → mayT t = true → allT (effB n) t = true → allT (fun h _ => decide (h.r ≤ 9223372036854775807 ∧ ∀ x ∈ h.e, x.r ≤ 9223372036854775807)) t = true → Short (1007 * n + 20) (wordsT t) := by
 intro m
 induction m with
 | zero => intro t h; have := wt_pos t; omega
 | succ m ih =>
  intro t h hm he hi
  obtain ⟨hk, hv, -, -, -⟩ := may_node hm
  have hi2 := hi
  rw [allT_eq, Bool.and_eq_true] at hi2
  have he2 := he
  rw [allT_eq, Bool.and_eq_true] at he2
  obtain ⟨hr, hx⟩ := of_decide_eq_true hi2.1
  obtain ⟨hel, hes⟩ := eff_iff.1 he2.1
  have hkid : ∀ i, i < t.ks.length → Short (1007 * n + 20) (wordsT (tget t.ks i)) := fun i hl => ih _ (by have := wts_get hl; have := wt_ks t; omega) (may_kid hm hl) (allK_get _ hl he2.2) (allK_get _ hl hi2.2)
  have hd : (digs t.h.r).size ≤ 1007 * n + 20 := by have := Effect.digs_size t.h.r hv hr; omega
  have hte : (textE (ofA t.h.e)).size ≤ 1007 * n + 20 := by
   have := textE_size (e := t.h.e) (fun x hx2 => by
    obtain ⟨h1, h2⟩ := (Effect.mem_of _ _).1 hx2
    refine ⟨?_, hx x h1, by have := hes x h1; omega⟩
    unfold Effect.atomB at h2
    split at h2
    ·rw [Bool.and_eq_true] at h2; have := of_decide_eq_true h2.1; omega
    ·rw [Bool.and_eq_true, Bool.and_eq_true] at h2; exact of_decide_eq_true h2.1.2) hel
   omega
  have htail : Short (1007 * n + 20) [wAt, digs t.h.r, wShut] := Short.cons (show (1 : Nat) ≤ _ by omega) (Short.cons hd (Short.cons (show (1 : Nat) ≤ _ by omega) (Short.nil _)))
  rw [wordsT_eq]
  unfold comb
  rcases hk with ⟨hk, hl, -⟩ | ⟨hk, hl⟩ | ⟨hk, hl⟩
  ·rw [if_pos hk]; exact Short.cons (show (3 : Nat) ≤ _ by omega) (Short.nil _)
  ·rw [if_neg (by omega), if_neg (by omega), if_pos hk, kw_get (show 0 < t.ks.length by omega)]
   exact Short.cons (show (1 : Nat) ≤ _ by omega) ((Short.cons (show (3 : Nat) ≤ _ by omega) (hkid 0 (by omega))).append htail)
  ·rcases hk with hk | hk
   ·rw [if_neg (by omega), if_pos hk, kw_get (show 0 < t.ks.length by omega), kw_get (show 1 < t.ks.length by omega)]
    exact Short.cons (show (1 : Nat) ≤ _ by omega) (((hkid 0 (by omega)).append (Short.cons (show (1 : Nat) ≤ _ by omega) (hkid 1 (by omega)))).append htail)
   ·rw [if_neg (by omega), if_neg (by omega), if_neg (by omega), kw_get (show 0 < t.ks.length by omega), kw_get (show 1 < t.ks.length by omega)]
    exact Short.cons (show (1 : Nat) ≤ _ by omega) (((hkid 0 (by omega)).append (Short.cons (show (2 : Nat) ≤ _ by omega) ((hkid 1 (by omega)).append (Short.cons (show (1 : Nat) ≤ _ by omega) (Short.cons hte (Short.nil _)))))).append htail)
theorem in_range {w : World} {p : Option Addr} {ts : List RT} (h : Kids w p ts) : allK (fun h _ => decide (h.r ≤ 9223372036854775807 ∧ ∀ x ∈ h.e, x.r ≤ 9223372036854775807)) ts = true := by
 induction h with
 | nokids p => exact allK_nil _
 | atkids b o ts q c qe ce hh hc hl he hk ih =>
  have : ∀ us : List RT, (∀ u ∈ us, allT (fun h _ => decide (h.r ≤ 9223372036854775807 ∧ ∀ x ∈ h.e, x.r ≤ 9223372036854775807)) u = true) → allK (fun h _ => decide (h.r ≤ 9223372036854775807 ∧ ∀ x ∈ h.e, x.r ≤ 9223372036854775807)) us = true := by
   intro us
   induction us with
   | nil => intro _; exact allK_nil _
   | cons u us ihu => intro hu; rw [allK_cons, hu u List.mem_cons_self, ihu (fun x hx => hu x (List.mem_cons_of_mem _ hx))]; rfl
  refine this ts (fun u hu => ?_)
  obtain ⟨i, hi, e⟩ := List.getElem_of_mem hu
  have e2 : tget ts i = u := by
   have := tget_at hi
   rw [List.getElem?_eq_getElem hi, e] at this
   exact (Option.some.inj this).symm
  have := ih i hi
  rw [e2] at this
  have ho := hh i hi
  rw [e2] at ho
  rw [allT_eq, this, Bool.and_true]
  exact decide_eq_true ⟨ho.r.2, fun x hx => (ho.e x hx).r.2⟩
theorem in_rangeT {w : World} {h : Hd} {pe : Option Addr} {ne ce : Nat} {p : Option Addr} {l c : Nat} {t : RT} (hT : RtIs w h pe ne ce p l c t) : allT (fun h _ => decide (h.r ≤ 9223372036854775807 ∧ ∀ x ∈ h.e, x.r ≤ 9223372036854775807)) t = true := by
 rw [allT_eq, in_range hT.kids, hT.head, Bool.and_true]
 exact decide_eq_true ⟨hT.ok.r.2, fun x hx => (hT.ok.e x hx).r.2⟩
theorem text_size {w : World} {h : Hd} {pe : Option Addr} {ne ce : Nat} {p : Option Addr} {l c : Nat} {t : RT} (hT : RtIs w h pe ne ce p l c t) (hm : mayT t = true) {n : Nat} (hnn : n ≤ 1000) (he : allT (effB n) t = true) : (jb (wordsT t)).size ≤ (1007 * n + 21) * (8 * wt t) := by
 have h1 := jb_size _ (words_short hnn _ t (Nat.le_refl _) hm he (in_rangeT hT))
 have h2 := words_le hm
 exact Nat.le_trans h1 (Nat.mul_le_mul_left _ h2)
theorem jb_part {a b c : List ByteArray} : (jb b).size ≤ (jb (a ++ b ++ c)).size := by
 have e : ∀ ss, (jb ss).size = (Lib.join (ss.map (·.data.toList)) [32]).length := fun ss => by rw [← jb_list]; rfl
 by_cases hb : b = []
 ·subst hb; exact Nat.zero_le _
 have hb' : b.map (·.data.toList) ≠ [] := by simpa using hb
 rw [e, e, List.map_append, List.map_append]
 generalize a.map (·.data.toList) = x at *
 generalize b.map (·.data.toList) = y at *
 generalize c.map (·.data.toList) = z at *
 have h1 : (Lib.join y [32]).length ≤ (Lib.join (x ++ y) [32]).length := by
  by_cases hx : x = []
  ·subst hx; exact Nat.le_refl _
  ·rw [Types.join_app x y hx hb', List.length_append, List.length_cons]; omega
 have h2 : (Lib.join (x ++ y) [32]).length ≤ (Lib.join (x ++ y ++ z) [32]).length := by
  by_cases hz : z = []
  ·subst hz; rw [List.append_nil]; exact Nat.le_refl _
  ·rw [Types.join_app (x ++ y) z (by simp [hb']) hz, List.length_append]; omega
 omega
end Rt
end Go.Proofs.YtkfkpjngiffamaaGreatDoor
namespace Go.Proofs.YtkfkpjngiffamaaGreatDoor
open Go.RowKit
set_option linter.unusedVariables false
set_option linter.unusedSimpArgs false
namespace Disp
open Aterm (AT Hd tget wt wts nodeB allT allK)
open Effect (At ofA textE textA digs atomB)
open Types (jb bl wInt wOpen wShut wStar wRef wArrow bl_jb bl_inj bl_app bl_cons bl_one bl_append jb_one)
open Rt (wAt wBang kw)

def wComma : ByteArray := ⟨#[44]⟩
def wColon : ByteArray := ⟨#[58]⟩
def wPut : ByteArray := ⟨#[58, 61]⟩
def wTo : ByteArray := ⟨#[61, 62]⟩
def wIs : ByteArray := ⟨#[61]⟩
def wAdd : ByteArray := ⟨#[43]⟩
def wSub : ByteArray := ⟨#[45]⟩
def wLess : ByteArray := ⟨#[60]⟩
def wBrO : ByteArray := ⟨#[91]⟩
def wBrC : ByteArray := ⟨#[93]⟩
def wFst : ByteArray := ⟨#[102, 115, 116]⟩
def wSnd : ByteArray := ⟨#[115, 110, 100]⟩
def wFn : ByteArray := ⟨#[102, 110]⟩
def wLet : ByteArray := ⟨#[108, 101, 116]⟩
def wLetrec : ByteArray := ⟨#[108, 101, 116, 114, 101, 99]⟩
def wIn : ByteArray := ⟨#[105, 110]⟩
def wIf : ByteArray := ⟨#[105, 102]⟩
def wThen : ByteArray := ⟨#[116, 104, 101, 110]⟩
def wElse : ByteArray := ⟨#[101, 108, 115, 101]⟩
def wRaise : ByteArray := ⟨#[114, 97, 105, 115, 101]⟩
def wTry : ByteArray := ⟨#[116, 114, 121]⟩
def wWith : ByteArray := ⟨#[119, 105, 116, 104]⟩
def wRegion : ByteArray := ⟨#[114, 101, 103, 105, 111, 110]⟩
def signW (op : Int) : ByteArray := if op = 1 then wAdd else if op = 2 then wSub else if op = 3 then wStar else if op = 4 then wLess else wIs
def tyT (t : Rt.RT) : ByteArray := jb (Rt.wordsT t)
def efT (e : List At) : ByteArray := textE (ofA e)
def rhosW (rs : List Int) : List ByteArray := wBrO :: (rs.map digs ++ [wBrC])
def atW (r : Int) : List ByteArray := [wAt, digs r]
def inW (h : Hd) (ks : List (List ByteArray)) : List ByteArray :=
 if h.h.k = 3 then kw ks 0 ++ ([wComma] ++ (kw ks 1 ++ atW h.rho))
 else if h.h.k = 4 then [wFst] ++ kw ks 0 else if h.h.k = 5 then [wSnd] ++ kw ks 0 else if h.h.k = 6 then [wRef] ++ (kw ks 0 ++ atW h.rho) else if h.h.k = 7 then [wBang] ++ kw ks 0
 else if h.h.k = 8 then kw ks 0 ++ ([wPut] ++ kw ks 1) else if h.h.k = 9 then kw ks 0 ++ ([signW h.h.op] ++ kw ks 1) else if h.h.k = 10 then kw ks 0 ++ kw ks 1
 else if h.h.k = 11 then [wFn, h.h.arg, wColon, tyT h.ty, wBang, efT h.e, wTo] ++ (kw ks 0 ++ atW h.rho)
 else if h.h.k = 12 then [wLet, h.h.name, wIs] ++ (kw ks 0 ++ ([wIn] ++ kw ks 1))
 else if h.h.k = 13 then [wLetrec, h.h.name] ++ (rhosW h.rhos ++ ([h.h.arg, wColon, tyT h.ty, wArrow, tyT h.re, wBang, efT h.e, wIs] ++ (kw ks 0 ++ (atW h.rho ++ ([wIn] ++ kw ks 1)))))
 else if h.h.k = 14 then [wIf] ++ (kw ks 0 ++ ([wThen] ++ (kw ks 1 ++ ([wElse] ++ kw ks 2))))
 else if h.h.k = 15 then [wRaise, h.h.exn] ++ (kw ks 0 ++ [wColon, tyT h.ty])
 else if h.h.k = 16 then [wTry] ++ (kw ks 0 ++ ([wWith, h.h.exn, h.h.arg, wTo] ++ kw ks 1))
 else if h.h.k = 17 then [wRegion, digs h.rho, wIn] ++ kw ks 0
 else [h.h.name] ++ (rhosW h.rhos ++ ([wBang, efT h.e] ++ atW h.rho))
def comb (h : Hd) (ks : List (List ByteArray)) : List ByteArray :=
 if h.h.k = 1 then [digs h.h.n] else if h.h.k = 2 then [h.h.name] else [wOpen] ++ (inW h ks ++ [wShut])
mutual
def partsT : AT → List ByteArray
 | .node h l => comb h (partsK l)
def partsK : List AT → List (List ByteArray)
 | [] => []
 | t :: ts => partsT t :: partsK ts
end
theorem partsT_eq (t : AT) : partsT t = comb t.h (partsK t.ks) := by cases t; conv => lhs; unfold partsT
                                                                     rfl
theorem partsK_map : ∀ ts : List AT, partsK ts = ts.map partsT
 | [] => by unfold partsK; rfl
 | t :: ts => by unfold partsK; rw [partsK_map ts]; rfl
theorem kw_get {ts : List AT} {i : Nat} (h : i < ts.length) : kw (partsK ts) i = partsT (tget ts i) := by
 unfold kw tget
 rw [partsK_map, List.getD_eq_getElem?_getD, List.getElem?_map, List.getElem?_eq_getElem h, List.getD_eq_getElem?_getD, List.getElem?_eq_getElem h]
 rfl

theorem node_of {h : Hd} {n : Nat} (hb : nodeB h n = true) : (1 ≤ h.h.k ∧ h.h.k ≤ 18) ∧ Term.kidsN (Aterm.likeK h.h.k) = n := by
 unfold nodeB at hb
 simp only [Bool.and_eq_true] at hb
 have h1 := hb.1.1.1.1.1
 unfold Aterm.headOk Term.nodeB at h1
 rw [Bool.and_eq_true] at h1
 have h2 := of_decide_eq_true h1.1
 have h3 : Term.kidsN (Aterm.likeK h.h.k) = n := h2.1
 refine ⟨?_, h3⟩
 by_cases hk : 1 ≤ h.h.k ∧ h.h.k ≤ 18
 ·exact hk
 ·exfalso
  have : Aterm.likeK h.h.k = h.h.k := by unfold Aterm.likeK; rw [if_neg (by omega), if_neg (by omega)]
  rw [this, Term.kidsN_none (by omega)] at h3
  omega
theorem kid_all {B : Hd → Nat → Bool} {t : AT} (h : allT B t = true) {i : Nat} (hi : i < t.ks.length) : allT B (tget t.ks i) = true := by
 rw [Aterm.allT_eq, Bool.and_eq_true] at h
 exact Aterm.allK_get _ hi h.2
theorem top_all {B : Hd → Nat → Bool} {t : AT} (h : allT B t = true) : B t.h t.ks.length = true := by
 rw [Aterm.allT_eq, Bool.and_eq_true] at h
 exact h.1
theorem wt1 {t : AT} (h : t.ks.length = 1) : wt t = wt (tget t.ks 0) + 1 := by
 rw [Aterm.wt_ks]
 match hk : t.ks, h with
 | [a], _ => rw [Aterm.wts_cons, Aterm.wts_nil]; show _ = wt a + 1; omega
theorem wt2 {t : AT} (h : t.ks.length = 2) : wt t = wt (tget t.ks 0) + wt (tget t.ks 1) + 1 := by
 rw [Aterm.wt_ks]
 match hk : t.ks, h with
 | [a, b], _ => rw [Aterm.wts_cons, Aterm.wts_cons, Aterm.wts_nil]; show _ = wt a + wt b + 1; omega
theorem wt3 {t : AT} (h : t.ks.length = 3) : wt t = wt (tget t.ks 0) + wt (tget t.ks 1) + wt (tget t.ks 2) + 1 := by
 rw [Aterm.wt_ks]
 match hk : t.ks, h with
 | [a, b, c], _ => rw [Aterm.wts_cons, Aterm.wts_cons, Aterm.wts_cons, Aterm.wts_nil]; show _ = wt a + wt b + wt c + 1; omega
theorem nil_of {α : Type} {l : List α} (h : l.length = 0) : l = [] := List.length_eq_zero_iff.1 h
theorem kinds {t : AT} (h : allT nodeB t = true) :
  ((t.h.h.k = 1 ∨ t.h.h.k = 2 ∨ t.h.h.k = 18) ∧ t.ks.length = 0) ∨ ((t.h.h.k = 4 ∨ t.h.h.k = 5 ∨ t.h.h.k = 6 ∨ t.h.h.k = 7 ∨ t.h.h.k = 11 ∨ t.h.h.k = 15 ∨ t.h.h.k = 17) ∧ t.ks.length = 1) ∨
  ((t.h.h.k = 3 ∨ t.h.h.k = 8 ∨ t.h.h.k = 9 ∨ t.h.h.k = 10 ∨ t.h.h.k = 12 ∨ t.h.h.k = 13 ∨ t.h.h.k = 16) ∧ t.ks.length = 2) ∨ (t.h.h.k = 14 ∧ t.ks.length = 3) := by
 obtain ⟨hk, hn⟩ := node_of (top_all h)
 clear h
 generalize t.ks.length = n at *
 generalize t.h.h.k = k at *
 have hh : k = 1 ∨ k = 2 ∨ k = 3 ∨ k = 4 ∨ k = 5 ∨ k = 6 ∨ k = 7 ∨ k = 8 ∨ k = 9 ∨ k = 10 ∨ k = 11 ∨ k = 12 ∨ k = 13 ∨ k = 14 ∨ k = 15 ∨ k = 16 ∨ k = 17 ∨ k = 18 := by omega
 rcases hh with e | e | e | e | e | e | e | e | e | e | e | e | e | e | e | e | e | e
 all_goals
  subst e
  unfold Aterm.likeK Term.kidsN at hn
  simp at hn
  omega
theorem parts_len : ∀ m : Nat, ∀ t, wt t ≤ m → allT nodeB t = true → allT (fun h _ => decide (h.rhos.length ≤ 50)) t = true → 1 ≤ (partsT t).length ∧ (partsT t).length ≤ 80 * wt t := by
 intro m
 induction m with
 | zero => intro t h; have := Aterm.wt_pos t; omega
 | succ m ih =>
  intro t h hm hr
  have hr2 : t.h.rhos.length ≤ 50 := of_decide_eq_true (top_all hr)
  have hrw : (rhosW t.h.rhos).length ≤ 52 := by unfold rhosW; simp; omega
  have hp := Aterm.wt_pos t
  rw [partsT_eq]
  unfold comb inW
  rcases kinds hm with ⟨hk, hl⟩ | ⟨hk, hl⟩ | ⟨hk, hl⟩ | ⟨hk, hl⟩
  ·rcases hk with hk | hk | hk
   ·simp [hk]; omega
   ·simp [hk]; omega
   ·simp [hk, atW]; omega
  ·have h0 := ih (tget t.ks 0) (by have := wt1 hl; omega) (kid_all hm (by omega)) (kid_all hr (by omega))
   have hw := wt1 hl
   have hk0 := kw_get (show 0 < t.ks.length by omega)
   rcases hk with hk | hk | hk | hk | hk | hk | hk
   all_goals
    simp [hk, hk0, atW]
    omega
  ·have h0 := ih (tget t.ks 0) (by have := wt2 hl; omega) (kid_all hm (by omega)) (kid_all hr (by omega))
   have h1 := ih (tget t.ks 1) (by have := wt2 hl; omega) (kid_all hm (by omega)) (kid_all hr (by omega))
   have hw := wt2 hl
   have hk0 := kw_get (show 0 < t.ks.length by omega)
   have hk1 := kw_get (show 1 < t.ks.length by omega)
   rcases hk with hk | hk | hk | hk | hk | hk | hk
   all_goals
    simp [hk, hk0, hk1, atW]
    omega
  ·have h0 := ih (tget t.ks 0) (by have := wt3 hl; omega) (kid_all hm (by omega)) (kid_all hr (by omega))
   have h1 := ih (tget t.ks 1) (by have := wt3 hl; omega) (kid_all hm (by omega)) (kid_all hr (by omega))
   have h2 := ih (tget t.ks 2) (by have := wt3 hl; omega) (kid_all hm (by omega)) (kid_all hr (by omega))
   have hw := wt3 hl
   have hk0 := kw_get (show 0 < t.ks.length by omega)
   have hk1 := kw_get (show 1 < t.ks.length by omega)
   have hk2 := kw_get (show 2 < t.ks.length by omega)
   simp [hk, hk0, hk1, hk2]
   omega
theorem few_of {t : AT} (h : allT Aterm.smallB t = true) : allT (fun h _ => decide (h.rhos.length ≤ 50)) t = true :=
 (Aterm.all_imp (fun h n hh => decide_eq_true (Aterm.long_no (by unfold Aterm.smallB at hh; simpa using hh)).1.2.2.2) _).1 t (Nat.le_refl _) h
theorem parts_le {t : AT} (h : allT nodeB t = true) (hs : allT Aterm.smallB t = true) : (partsT t).length ≤ 80 * wt t := (parts_len _ t (Nat.le_refl _) h (few_of hs)).2
end Disp
end Go.Proofs.YtkfkpjngiffamaaGreatDoor
namespace Go.Proofs.YtkfkpjngiffamaaGreatDoor
open Go.RowKit
set_option linter.unusedVariables false
set_option linter.unusedSimpArgs false
namespace Rt
open Effect (At AtOk AtsAt Rd ofA ret_i64 ret_bool)

theorem inRegion_walk (h : Hd) (pe : Option Addr) (ne ce : Nat) (p : Option Addr) (l c : Nat) (w : World) :
  Calls Tryz.prog 144 #[.agg #[.int .u8 h.k, .int .i64 h.r, .slice pe ne ce, .slice p l c]] w fun e w' => e = .returned (.bool (decide (h.k ≠ 1))) ∧ Below w.heap.size w w' := by
 obtain ⟨k, v, e⟩ := h
 have hr : decide (k ≠ 1) = (k != 1) := by simp [bne, Bool.beq_eq_decide_eq]
 have HR := Lib.hid hr
 clear hr
 go_enter Tryz.func144, Tryz.ntmps144
 go_wp2
 go_ret
 exact ⟨ret_bool HR.out.symm, box_new _⟩

theorem of_nil : ofA [] = [] := rfl
def oddB (h : Hd) (n : Nat) : Bool := !nodeB h n
set_option maxRecDepth 10000 in
set_option maxHeartbeats 12800000 in
theorem odd_walk (h : Hd) (pe : Option Addr) (ne ce : Nat) (p : Option Addr) (l c : Nat) (w : World) (hk : 0 ≤ h.k ∧ h.k ≤ 255) (hl : l ≤ maxLen) (hne : h.e.length = ne) (he : EffIs w pe ne ce h.e) (hn : ne ≤ 100000) :
  Calls Tryz.prog 107 #[.agg #[.int .u8 h.k, .int .i64 h.r, .slice pe ne ce, .slice p l c]] w fun e w' => e = .returned (.bool (oddB h l)) ∧ Below w.heap.size w w' := by
 obtain ⟨k, v, e⟩ := h
 unfold maxLen at hl
 simp only at hk hne he
 have hmay := fun O : Obj => Effect.may_walk (c := ce) (he.below (box_new O)).rd hn
 have hlen : (ne = 0) = (e = []) := by rw [← hne, List.length_eq_zero_iff]
 have HMAY := Lib.hid hmay; have HLEN := Lib.hid hlen
 clear hmay hlen he hne
 have hcase : k = 1 ∨ k = 2 ∨ k = 3 ∨ k = 4 ∨ (k ≠ 1 ∧ k ≠ 2 ∧ k ≠ 3 ∧ k ≠ 4) := by omega
 rcases hcase with rfl | rfl | rfl | rfl | ⟨h1, h2, h3, h4⟩
 ·by_cases hv : v = 0
  ·subst hv
   by_cases hne : ne = 0
   ·have he := HLEN.out.mp hne
    subst hne he
    by_cases hl0 : l = 0
    ·subst hl0
     have hr : oddB ⟨1, 0, []⟩ 0 = false := by unfold oddB nodeB kidsN; rw [decide_eq_true (by simp [of_nil])]; rfl
     have HR := Lib.hid hr
     clear hr HMAY HLEN
     go_enter Tryz.func107, Tryz.ntmps107
     go_wp2
     go_ret
     exact ⟨ret_bool HR.out.symm, box_new _⟩
    ·have hr : oddB ⟨1, 0, []⟩ l = true := by unfold oddB nodeB kidsN; rw [decide_eq_false (by simp; omega)]; rfl
     have b0 : ((l : Int) != 0) = true := by rw [bne_iff_ne]; omega
     have HR := Lib.hid hr
     clear hr HMAY HLEN hl0
     go_enter Tryz.func107, Tryz.ntmps107
     go_wp2
     go_ret
     exact ⟨ret_bool HR.out.symm, box_new _⟩
   ·have hr : oddB ⟨1, 0, e⟩ l = true := by unfold oddB nodeB kidsN; rw [decide_eq_false (fun h => hne (HLEN.out.mpr (h.2.2.2.1 (by simp))))]; rfl
    have b0 : ((ne : Int) != 0) = true := by rw [bne_iff_ne]; omega
    have HR := Lib.hid hr
    clear hr HMAY HLEN hne
    go_enter Tryz.func107, Tryz.ntmps107
    go_wp2
    go_ret
    exact ⟨ret_bool HR.out.symm, box_new _⟩
  ·have hr : oddB ⟨1, v, e⟩ l = true := by unfold oddB nodeB kidsN; rw [decide_eq_false (fun h => by have h1 := h.2.1; have h2 := h.2.2.1 rfl; simp only at h1 h2; omega)]; rfl
   have b0 : (v != 0) = true := by rw [bne_iff_ne]; exact hv
   have HR := Lib.hid hr
   clear hr HMAY HLEN hv
   go_enter Tryz.func107, Tryz.ntmps107
   go_wp2
   go_ret
   exact ⟨ret_bool HR.out.symm, box_new _⟩
 ·by_cases hv : v < 0
  ·have hr : oddB ⟨2, v, e⟩ l = true := by unfold oddB nodeB kidsN; rw [decide_eq_false (fun h => by have h1 := h.2.1; simp only at h1; omega)]; rfl
   have b0 : decide (v < 0) = true := decide_eq_true hv
   have HR := Lib.hid hr
   clear hr HMAY HLEN
   go_enter Tryz.func107, Tryz.ntmps107
   go_wp2
   go_ret
   exact ⟨ret_bool HR.out.symm, box_new _⟩
  ·have b0 : decide (v < 0) = false := decide_eq_false hv
   by_cases hne : ne = 0
   ·have he := HLEN.out.mp hne
    subst hne he
    by_cases hl0 : l = 2
    ·subst hl0
     have hr : oddB ⟨2, v, []⟩ 2 = false := by unfold oddB nodeB kidsN; rw [decide_eq_true (by simp [of_nil]; omega)]; rfl
     have HR := Lib.hid hr
     clear hr HMAY HLEN
     go_enter Tryz.func107, Tryz.ntmps107
     go_wp2
     go_ret
     exact ⟨ret_bool HR.out.symm, box_new _⟩
    ·have hr : oddB ⟨2, v, []⟩ l = true := by unfold oddB nodeB kidsN; rw [decide_eq_false (fun h => by have h1 := h.1; simp at h1; omega)]; rfl
     have b1 : ((l : Int) != 2) = true := by rw [bne_iff_ne]; omega
     have HR := Lib.hid hr
     clear hr HMAY HLEN hl0
     go_enter Tryz.func107, Tryz.ntmps107
     go_wp2
     go_ret
     exact ⟨ret_bool HR.out.symm, box_new _⟩
   ·have hr : oddB ⟨2, v, e⟩ l = true := by unfold oddB nodeB kidsN; rw [decide_eq_false (fun h => hne (HLEN.out.mpr (h.2.2.2.1 (by simp))))]; rfl
    have b1 : ((ne : Int) != 0) = true := by rw [bne_iff_ne]; omega
    have HR := Lib.hid hr
    clear hr HMAY HLEN hne
    go_enter Tryz.func107, Tryz.ntmps107
    go_wp2
    go_ret
    exact ⟨ret_bool HR.out.symm, box_new _⟩
 ·by_cases hv : v < 0
  ·have hr : oddB ⟨3, v, e⟩ l = true := by unfold oddB nodeB kidsN; rw [decide_eq_false (fun h => by have h1 := h.2.1; simp only at h1; omega)]; rfl
   have b0 : decide (v < 0) = true := decide_eq_true hv
   have HR := Lib.hid hr
   clear hr HMAY HLEN
   go_enter Tryz.func107, Tryz.ntmps107
   go_wp2
   go_ret
   exact ⟨ret_bool HR.out.symm, box_new _⟩
  ·have b0 : decide (v < 0) = false := decide_eq_false hv
   by_cases hne : ne = 0
   ·have he := HLEN.out.mp hne
    subst hne he
    by_cases hl0 : l = 1
    ·subst hl0
     have hr : oddB ⟨3, v, []⟩ 1 = false := by unfold oddB nodeB kidsN; rw [decide_eq_true (by simp [of_nil]; omega)]; rfl
     have HR := Lib.hid hr
     clear hr HMAY HLEN
     go_enter Tryz.func107, Tryz.ntmps107
     go_wp2
     go_ret
     exact ⟨ret_bool HR.out.symm, box_new _⟩
    ·have hr : oddB ⟨3, v, []⟩ l = true := by unfold oddB nodeB kidsN; rw [decide_eq_false (fun h => by have h1 := h.1; simp at h1; omega)]; rfl
     have b1 : ((l : Int) != 1) = true := by rw [bne_iff_ne]; omega
     have HR := Lib.hid hr
     clear hr HMAY HLEN hl0
     go_enter Tryz.func107, Tryz.ntmps107
     go_wp2
     go_ret
     exact ⟨ret_bool HR.out.symm, box_new _⟩
   ·have hr : oddB ⟨3, v, e⟩ l = true := by unfold oddB nodeB kidsN; rw [decide_eq_false (fun h => hne (HLEN.out.mpr (h.2.2.2.1 (by simp))))]; rfl
    have b1 : ((ne : Int) != 0) = true := by rw [bne_iff_ne]; omega
    have HR := Lib.hid hr
    clear hr HMAY HLEN hne
    go_enter Tryz.func107, Tryz.ntmps107
    go_wp2
    go_ret
    exact ⟨ret_bool HR.out.symm, box_new _⟩
 ·by_cases hv : v < 0
  ·have hr : oddB ⟨4, v, e⟩ l = true := by unfold oddB nodeB kidsN; rw [decide_eq_false (fun h => by have h1 := h.2.1; simp only at h1; omega)]; rfl
   have b0 : decide (v < 0) = true := decide_eq_true hv
   have HR := Lib.hid hr
   clear hr HMAY HLEN
   go_enter Tryz.func107, Tryz.ntmps107
   go_wp2
   go_ret
   exact ⟨ret_bool HR.out.symm, box_new _⟩
  ·have b0 : decide (v < 0) = false := decide_eq_false hv
   cases hm : decide (e = ofA e)
   ·have hr : oddB ⟨4, v, e⟩ l = true := by unfold oddB nodeB kidsN; rw [decide_eq_false (fun h => (of_decide_eq_false hm) h.2.2.2.2)]; rfl
    have HR := Lib.hid hr; have HMM := Lib.hid hm
    clear hr HLEN hm
    go_enter Tryz.func107, Tryz.ntmps107
    go_wp2_with (fail)
    refine (HMAY.out _).mono ?_
    rintro e1 w1 ⟨rfl, hb1⟩
    obtain ⟨c0, c1, c2, c3⟩ := box4 (N := w.heap.size) rfl hb1
    have HB := Lib.hid (below_then (box_new _) hb1 (by simp))
    clear hb1
    rw [HMM.out]
    go_wp2
    go_ret
    exact ⟨ret_bool HR.out.symm, HB.out⟩
   ·by_cases hl2 : l = 2
    ·subst hl2
     have hr : oddB ⟨4, v, e⟩ 2 = false := by unfold oddB nodeB kidsN; rw [decide_eq_true (by have := of_decide_eq_true hm; simp; exact ⟨by omega, this⟩)]; rfl
     have HR := Lib.hid hr; have HMM := Lib.hid hm
     clear hr HLEN hm
     go_enter Tryz.func107, Tryz.ntmps107
     go_wp2_with (fail)
     refine (HMAY.out _).mono ?_
     rintro e1 w1 ⟨rfl, hb1⟩
     obtain ⟨c0, c1, c2, c3⟩ := box4 (N := w.heap.size) rfl hb1
     have HB := Lib.hid (below_then (box_new _) hb1 (by simp))
     clear hb1
     rw [HMM.out]
     go_wp2
     go_ret
     exact ⟨ret_bool HR.out.symm, HB.out⟩
    ·have hr : oddB ⟨4, v, e⟩ l = true := by unfold oddB nodeB kidsN; rw [decide_eq_false (fun h => by have h1 := h.1; simp at h1; omega)]; rfl
     have b1 : ((l : Int) != 2) = true := by rw [bne_iff_ne]; omega
     have HR := Lib.hid hr; have HMM := Lib.hid hm
     clear hr HLEN hm hl2
     go_enter Tryz.func107, Tryz.ntmps107
     go_wp2_with (fail)
     refine (HMAY.out _).mono ?_
     rintro e1 w1 ⟨rfl, hb1⟩
     obtain ⟨c0, c1, c2, c3⟩ := box4 (N := w.heap.size) rfl hb1
     have HB := Lib.hid (below_then (box_new _) hb1 (by simp))
     clear hb1
     rw [HMM.out]
     go_wp2
     go_ret
     exact ⟨ret_bool HR.out.symm, HB.out⟩
 ·have hr : oddB ⟨k, v, e⟩ l = true := by unfold oddB nodeB kidsN; rw [decide_eq_false (fun h => by have h5 := h.1; simp only [if_neg h1, if_neg h3, if_neg (show ¬ (k = 2 ∨ k = 4) from fun e => e.elim h2 h4)] at h5; omega)]; rfl
  have b1 : (k == 1) = false := by simpa using h1
  have b2 : (k == 2) = false := by simpa using h2
  have b3 : (k == 3) = false := by simpa using h3
  have b4 : (k == 4) = false := by simpa using h4
  have HR := Lib.hid hr
  clear hr HMAY HLEN h1 h2 h3 h4
  go_enter Tryz.func107, Tryz.ntmps107
  go_wp2
  go_ret
  exact ⟨ret_bool HR.out.symm, box_new _⟩

set_option maxRecDepth 10000 in
set_option maxHeartbeats 6400000 in
theorem someOdd_walk :
  ∀ (m : Nat) (ts : List RT) (p : Option Addr) (l d : Nat) (w : World), wts ts ≤ m → ts.length = l → l ≤ maxLen → Kids w p ts → allK (effB 100000) ts = true →
  Calls Tryz.prog 106 #[.func (.func 107) #[] #[], .slice p l d] w fun e w' => e = .returned (.bool (!mayK ts)) ∧ Below w.heap.size w w' := by
 intro m
 induction m using Nat.strongRecOn with
 | _ m ih =>
  intro ts p l d w hm hl hlm hk hi
  unfold maxLen at hlm
  have HM := Lib.hid hm; have HL := Lib.hid hl; have HK := Lib.hid hk; have HI := Lib.hid hi; have IH := Lib.hid ih
  clear hm hl hk hi ih
  go_enter Tryz.func106, Tryz.ntmps106
  go_wp2_with (fail)
  go_loopw [6, 9] (fun _ i wr => ∃ j : Nat, j ≤ l ∧ i = .int .i64 j ∧ Hid (mayK ts = mayK (ts.drop j)) ∧ Hid (Below w.heap.size w wr)) (fun _ i _ => l - (intOf i).toNat)
  case atStart => exact ⟨0, Nat.zero_le _, rfl, Lib.hid (by rw [List.drop_zero]), Lib.hid (Below.refl _ _)⟩
  case round =>
   obtain ⟨j, hj, rfl, HF, HS⟩ := hrel
   by_cases hlt : j < l
   ·have hjk : j < ts.length := by rw [HL.out]; exact hlt
    obtain ⟨b, o, q, c', qe, ce', rfl, hkid, c0, c1, c2, c3⟩ := (HK.out.stay HS.out).get j hjk
    have hwm : wts (tget ts j).ks < wts ts := by have h1 := wts_get hjk; have h2 := wt_ks (tget ts j); omega
    have hef := allK_get _ hjk HI.out
    rw [allT_eq, Bool.and_eq_true] at hef
    have hodd := fun O : Obj => odd_walk (tget ts j).h qe (tget ts j).h.e.length ce' q (tget ts j).ks.length c' (wr.alloc O) hkid.ok.k (Nat.le_trans hkid.cap.1 hkid.cap.2) rfl (hkid.eff.below (box_new O)) (eff_iff.1 hef.1).1
    have HJK := Lib.hid hjk; have HKID := Lib.hid hkid; have HWM := Lib.hid hwm; have HODD := Lib.hid hodd; have HEF := Lib.hid hef.2
    clear hjk hkid hwm hodd hef
    go_wp2_with (fail)
    refine (HODD.out _).mono ?_
    rintro e w1 ⟨rfl, hb1⟩
    obtain ⟨b0, b1, b2, b3⟩ := box4 (N := wr.heap.size) rfl hb1
    have hb1' := (box_new (w := wr) (.cells #[.int .u8 (tget ts j).h.k, .int .i64 (tget ts j).h.r, .slice qe (tget ts j).h.e.length ce', .slice q (tget ts j).ks.length c'] 28)).trans (hb1.mono (by simp))
    have HB1 := Lib.hid (below_then HS.out hb1' HS.out.size)
    have HW1 := Lib.hid hb1'
    clear hb1 hb1' c0 c1 c2 c3
    cases hb : nodeB (tget ts j).h (tget ts j).ks.length
    ·have hno : mayK (ts.drop j) = false := allK_no nodeB HJK.out hb
     have hod : oddB (tget ts j).h (tget ts j).ks.length = true := by unfold oddB; rw [hb]; rfl
     have HNO := Lib.hid hno; have HOD := Lib.hid hod
     clear hno hb hod
     rw [HOD.out]
     go_wp2
     go_ret
     exact ⟨ret_bool (by rw [HF.out, HNO.out]; rfl), HB1.out⟩
    ·have hod : oddB (tget ts j).h (tget ts j).ks.length = false := by unfold oddB; rw [hb]; rfl
     have HB := Lib.hid hb; have HOD := Lib.hid hod
     clear hb hod
     rw [HOD.out]
     go_wp2_with (fail)
     refine (IH.out (wts (tget ts j).ks) (by have := HWM.out; have := HM.out; omega) (tget ts j).ks q _ c' _ (Nat.le_refl _) rfl (Nat.le_trans HKID.out.cap.1 HKID.out.cap.2) (HKID.out.below HW1.out).kids HEF.out).mono ?_
     rintro e w2 ⟨rfl, hb2⟩
     have HB2 := Lib.hid (below_then HB1.out hb2 HB1.out.size)
     clear hb2 b0 b1 b2 b3
     cases hk : mayK (tget ts j).ks
     ·have hno : mayK (ts.drop j) = false := allK_kno nodeB HJK.out hk
      have HNO := Lib.hid hno
      clear hno hk
      go_wp2
      go_ret
      exact ⟨ret_bool (by rw [HF.out, HNO.out]; rfl), HB2.out⟩
     ·have hyes : mayK (ts.drop j) = mayK (ts.drop (j + 1)) := allK_yes nodeB HJK.out HB.out hk
      have HYES := Lib.hid hyes
      clear hyes hk
      go_wp2
      go_roundw
      case rel => exact ⟨j + 1, by omega, by go_num, Lib.hid (HF.out.trans HYES.out), HB2⟩
      case measure => simp [intOf]; omega
   ·obtain rfl : j = l := by omega
    have hr := HF.out
    rw [List.drop_eq_nil_of_le (by rw [HL.out]; exact Nat.le_refl _), mayK_nil] at hr
    have HR := Lib.hid hr
    clear hr
    go_wp2
    go_ret
    exact ⟨ret_bool (by rw [HR.out]; rfl), HS.out⟩

set_option maxHeartbeats 1600000 in
theorem may_walk (ts : List RT) (p : Option Addr) (l d : Nat) (w : World) (hl : ts.length = l) (hlm : l ≤ maxLen) (hk : Kids w p ts) (he : allK (effB 100000) ts = true) :
  Calls Tryz.prog 85 #[.slice p l d] w fun e w' => e = .returned (.bool (mayK ts)) ∧ Below w.heap.size w w' := by
 have ha := someOdd_walk (wts ts) ts p l d w (Nat.le_refl _) hl hlm hk he
 have HA := Lib.hid ha
 clear ha hl hlm hk he
 generalize mayK ts = X at *
 go_enter Tryz.func85, Tryz.ntmps85
 go_wp2_with (fail)
 refine (HA.out).mono ?_
 rintro e w1 ⟨rfl, hb1⟩
 have HB1 := Lib.hid hb1
 clear hb1
 cases X
 all_goals
  go_wp2_with (fail)
  go_ret
  exact ⟨rfl, HB1.out⟩
end Rt
end Go.Proofs.YtkfkpjngiffamaaGreatDoor
namespace Go.Proofs.YtkfkpjngiffamaaGreatDoor
open Go.RowKit
set_option linter.unusedVariables false
set_option linter.unusedSimpArgs false
namespace Rt
open Effect (At AtOk AtsAt Rd ofA ret_i64 ret_bool lt_of_block heap_alloc_new)

def IsT (T : TypeId) (O : Option Obj) : Prop := ∃ cs fz, O = some (.cells cs T fz)
structure Wro (T : TypeId) (N : Nat) (w w' : World) : Prop where
 os : w'.os = w.os
 tape : w'.tape = w.tape
 output : w'.output = w.output
 size : w.heap.size ≤ w'.heap.size
 low : ∀ k, k < w.heap.size → k < N → w'.heap[k]? = w.heap[k]?
 high : ∀ k, k < w.heap.size → k ≠ N → ¬ IsT T w.heap[k]? → w'.heap[k]? = w.heap[k]?
theorem Wro.refl (T : TypeId) (N : Nat) (w : World) : Wro T N w w := ⟨rfl, rfl, rfl, Nat.le_refl _, fun _ _ _ => rfl, fun _ _ _ _ => rfl⟩
theorem Wro.trans {T : TypeId} {N : Nat} {a b c : World} (h : Wro T N a b) (k : Wro T N b c) : Wro T N a c :=
 ⟨k.os.trans h.os, k.tape.trans h.tape, k.output.trans h.output, Nat.le_trans h.size k.size, fun i hi hn => (k.low i (Nat.lt_of_lt_of_le hi h.size) hn).trans (h.low i hi hn),
  fun i hi hn hs => (k.high i (Nat.lt_of_lt_of_le hi h.size) hn (by rw [h.high i hi hn hs]; exact hs)).trans (h.high i hi hn hs)⟩
theorem Wro.of_below {T : TypeId} {N : Nat} {w w' : World} (h : Below w.heap.size w w') : Wro T N w w' := ⟨h.os, h.tape, h.output, h.size, fun k hk _ => h.block k hk, fun k hk _ _ => h.block k hk⟩
theorem Wro.alloc {T : TypeId} {N : Nat} {w w' : World} (h : Wro T N w w') (O : Obj) : Wro T N w (w'.alloc O) := h.trans (Wro.of_below (box_new O))
theorem Wro.below {T : TypeId} {N : Nat} {w w' : World} (h : Wro T N w w') {a : World} {B : Nat} (hB : B ≤ N) (ha : Below B a w) (hN : B ≤ a.heap.size) : Below B a w' :=
 ⟨h.os.trans ha.os, h.tape.trans ha.tape, h.output.trans ha.output, Nat.le_trans ha.size h.size, fun k hk => (h.low k (Nat.lt_of_lt_of_le (Nat.lt_of_lt_of_le hk hN) ha.size) (by omega)).trans (ha.block k hk)⟩
theorem notT {T U : TypeId} {cs : Array Value} {fz : Nat × Nat} (h : U ≠ T) : ¬ IsT T (some (.cells cs U fz)) := by
 rintro ⟨cs', fz', e⟩
 injection e with e
 injection e with e1 e2 e3
 exact h e2
theorem Wro.keep {T U : TypeId} {N : Nat} {w w' : World} {b : Nat} {cs : Array Value} {fz : Nat × Nat} (h : Wro T N w w') (hb : w.heap[b]? = some (.cells cs U fz)) (hU : U ≠ T) (hN : b ≠ N) : w'.heap[b]? = some (.cells cs U fz) :=
 (h.high b (lt_of_block hb) hN (by rw [hb]; exact notT hU)).trans hb
theorem cells4 {W : World} {N : Nat} {a0 a1 a2 a3 : Value} {ty : TypeId} (h : W.heap[N]? = some (.cells #[a0, a1, a2, a3] ty (0, 0))) :
  (W.cell? ⟨N, 0, none⟩ = some a0 ∧ W.cell? ⟨N, 1, none⟩ = some a1 ∧ W.cell? ⟨N, 2, none⟩ = some a2 ∧ W.cell? ⟨N, 3, none⟩ = some a3) ∧ (W.frozen? ⟨N, 0, none⟩ = false ∧ W.frozen? ⟨N, 1, none⟩ = false ∧ W.frozen? ⟨N, 2, none⟩ = false ∧ W.frozen? ⟨N, 3, none⟩ = false) := by
 simp [World.cell?, World.frozen?, h]

theorem Wro.set {T : TypeId} {N : Nat} {a w : World} (h : Wro T N a w) (j : Nat) (u : Value) : Wro T N a (w.setCell ⟨N, j, none⟩ u) :=
 h.trans ⟨rfl, rfl, rfl, by simp [World.setCell], fun i hi hn => Below.heap_setCell _ _ _ _ (Nat.ne_of_lt hn), fun i hi hn _ => Below.heap_setCell _ _ _ _ (fun e => hn e)⟩

end Rt
end Go.Proofs.YtkfkpjngiffamaaGreatDoor
