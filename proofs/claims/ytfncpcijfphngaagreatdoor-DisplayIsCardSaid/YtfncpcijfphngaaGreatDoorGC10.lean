/-May a term with regions be: mathematics. The walks of a number's digits: the document's. The document's Text. The words of types with regions: mathematics. The words of terms with regions: mathematics: parts as they are put, and words in brackets. -/
import Derived.Test.YtfncpcijfphngaaGreatDoorGC09
import Derived.Test.YtfncpcijfphngaaGreatDoorGC04
import Derived.Lib.AppendIntMem
import Derived.Lib.LaidTab
import Derived.Lib.SmallJoins
import Derived.Laws.BytesArg
import Derived.LoopTactic
import Derived.Test.YtfncpcijfphngaaGreatDoorGC06
import Derived.Test.YtfncpcijfphngaaGreatDoorGC08
import Derived.Test.YtfncpcijfphngaaGreatDoorGC07
namespace Go.Proofs.YtfncpcijfphngaaGreatDoor
open Go.RowKit
set_option linter.unusedVariables false
set_option linter.unusedSimpArgs false
namespace Aterm
open Effect (At AtOk AtsAt Rd RdI ofA)
open Words (nameB exnB)

/-- A head of a kind that layer 4 knows, of just these fields and kids. -/
def likeK (k : Int) : Int := if k = 17 then 4 else if k = 18 then 2 else k
def likeH (h : Term.Hd) : Term.Hd := { h with k := likeK h.k }
def headOk (h : Term.Hd) (n : Nat) : Bool := Term.nodeB (likeH h) n
def rhoOk (h : Hd) : Bool := if h.h.k = 3 ∨ h.h.k = 6 ∨ h.h.k = 11 ∨ h.h.k = 13 ∨ h.h.k = 18 then decide (0 ≤ h.rho) else if h.h.k = 17 then decide (1 ≤ h.rho) else decide (h.rho = 0)
def rhosOk (h : Hd) : Bool := if h.h.k = 13 then !metO [] h.rhos && decide (∀ x ∈ h.rhos, 1 ≤ x) else if h.h.k = 18 then decide (∀ x ∈ h.rhos, 0 ≤ x) else decide (h.rhos.length = 0)
def effK (k : Int) : Bool := decide (k = 11 ∨ k = 13 ∨ k = 18)
def typK (k : Int) : Bool := decide (k = 11 ∨ k = 13 ∨ k = 15)
def effOk (h : Hd) : Bool := if effK h.h.k = true then decide (h.e = ofA h.e) else decide (h.e.length = 0)
def typOk (h : Hd) : Bool := if typK h.h.k = true then Rt.mayT h.ty else plainB h.ty
def resOk (h : Hd) : Bool := if h.h.k = 13 then Rt.mayT h.re else plainB h.re
/-- May a node alone be, of so many kids? -/
def nodeB (h : Hd) (n : Nat) : Bool := headOk h.h n && rhoOk h && rhosOk h && effOk h && typOk h && resOk h
/-- May a term be? -/
def mayT (t : AT) : Bool := decide (wt t ≤ 40000) && allT nodeB t

theorem kids_le {k : Int} : Term.kidsN k ≤ 3 := by unfold Term.kidsN; repeat' split; all_goals omega
theorem head_many {h : Term.Hd} {n : Nat} (hn : 3 < n) : headOk h n = false := by
 unfold headOk
 exact Term.nodeB_no (fun hh => by have := kids_le (k := (likeH h).k); have := hh.1; omega)

/-! ### All nodes, as far as they hold -/
mutual
def foT {σ : Type} (B : σ → AT → Bool) (S : σ → AT → σ) : AT → σ → Bool × σ
 | .node h l, s => if B s (.node h l) = true then foK B S l (S s (.node h l)) else (false, S s (.node h l))
def foK {σ : Type} (B : σ → AT → Bool) (S : σ → AT → σ) : List AT → σ → Bool × σ
 | [], s => (true, s)
 | t :: ts, s => if (foT B S t s).1 = true then foK B S ts (foT B S t s).2 else (false, (foT B S t s).2)
end
section
variable {σ : Type} (B : σ → AT → Bool) (S : σ → AT → σ)
theorem foT_eq (t : AT) (s : σ) : foT B S t s = if B s t = true then foK B S t.ks (S s t) else (false, S s t) := by cases t; unfold foT; rfl
theorem foK_nil (s : σ) : foK B S [] s = (true, s) := by unfold foK; rfl
theorem foK_cons (t : AT) (ts : List AT) (s : σ) : foK B S (t :: ts) s = if (foT B S t s).1 = true then foK B S ts (foT B S t s).2 else (false, (foT B S t s).2) := by conv => lhs; unfold foK
theorem foK_no {ts : List AT} {j : Nat} {u : σ} (hj : j < ts.length) (h : B u (tget ts j) = false) : foK B S (ts.drop j) u = (false, S u (tget ts j)) := by
 rw [drop_tget ts j hj, foK_cons, foT_eq]
 simp [h]
theorem foK_kno {ts : List AT} {j : Nat} {u : σ} (hj : j < ts.length) (h : B u (tget ts j) = true) (hk : (foK B S (tget ts j).ks (S u (tget ts j))).1 = false) : foK B S (ts.drop j) u = (false, (foK B S (tget ts j).ks (S u (tget ts j))).2) := by
 rw [drop_tget ts j hj, foK_cons, foT_eq, if_pos h, if_neg (by rw [hk]; exact Bool.false_ne_true)]
theorem foK_yes {ts : List AT} {j : Nat} {u : σ} (hj : j < ts.length) (h : B u (tget ts j) = true) (hk : (foK B S (tget ts j).ks (S u (tget ts j))).1 = true) : foK B S (ts.drop j) u = foK B S (ts.drop (j + 1)) (foK B S (tget ts j).ks (S u (tget ts j))).2 := by
 rw [drop_tget ts j hj, foK_cons, foT_eq, if_pos h, if_pos hk]
/-- Along the list of nodes. -/
def foL : List AT → σ → Bool × σ
 | [], s => (true, s)
 | t :: ts, s => if B s t = true then foL ts (S s t) else (false, S s t)
theorem foL_append (l m : List AT) (s : σ) : foL B S (l ++ m) s = if (foL B S l s).1 = true then foL B S m (foL B S l s).2 else foL B S l s := by
 induction l generalizing s with
 | nil => simp [foL]
 | cons t ts ih =>
  rw [List.cons_append, foL, foL]
  by_cases hb : B s t = true
  ·rw [if_pos hb, if_pos hb]; exact ih _
  ·rw [if_neg hb, if_neg hb, if_neg Bool.false_ne_true]
theorem fo_flat : ∀ m : Nat, (∀ t s, wt t ≤ m → foT B S t s = foL B S (flatT t) s) ∧ (∀ ts s, wts ts ≤ m → foK B S ts s = foL B S (flatK ts) s) := by
 intro m
 induction m with
 | zero =>
  refine ⟨fun t s h => by have := wt_pos t; omega, fun ts s h => ?_⟩
  cases ts with
  | nil => rw [flatK_nil, foK_nil]; rfl
  | cons t ts => rw [wts_cons] at h; have := wt_pos t; omega
 | succ m ih =>
  have hT : ∀ t s, wt t ≤ m + 1 → foT B S t s = foL B S (flatT t) s := by
   intro t s h
   have hk := wt_ks t
   rw [flatT_eq, foT_eq, foL]
   split
   ·exact ih.2 t.ks _ (by omega)
   ·rfl
  refine ⟨hT, fun ts => ?_⟩
  induction ts with
  | nil => intro s _; rw [flatK_nil, foK_nil]; rfl
  | cons t ts ihs =>
   intro s h
   rw [wts_cons] at h
   rw [flatK_cons, foK_cons, foL_append, ← hT t s (by omega)]
   split
   ·exact ihs _ (by omega)
   ·rename_i hh
    have : (foT B S t s).1 = false := by simpa using hh
    rw [← this]
theorem foT_flat (t : AT) (s : σ) : foT B S t s = foL B S (flatT t) s := (fo_flat B S (wt t)).1 t s (Nat.le_refl _)
end
/-! ### May -/
def mayB (s : Int) (t : AT) : Bool := decide (0 ≤ s - 1) && nodeB t.h t.ks.length
def mayS (s : Int) (_ : AT) : Int := s - 1
theorem foL_may : ∀ (l : List AT) (s : Int), 0 ≤ s → (foL mayB mayS l s).1 = (decide ((l.length : Int) ≤ s) && l.all fun t => nodeB t.h t.ks.length)
 | [], s, hs => by rw [foL]; simp; exact hs
 | t :: ts, s, hs => by
  rw [foL]
  by_cases h0 : 0 ≤ s - 1
  ·have hb : mayB s t = nodeB t.h t.ks.length := by unfold mayB; rw [decide_eq_true h0, Bool.true_and]
   cases hn : nodeB t.h t.ks.length
   ·rw [hb, hn, if_neg Bool.false_ne_true]
    simp [hn]
   ·rw [hb, hn, if_pos rfl, foL_may ts (mayS s t) h0, List.all_cons, hn, Bool.true_and, List.length_cons]
    congr 1
    rw [decide_eq_decide]
    unfold mayS
    omega
  ·have hb : mayB s t = false := by unfold mayB; rw [decide_eq_false h0, Bool.false_and]
   rw [hb, if_neg Bool.false_ne_true, decide_eq_false (by rw [List.length_cons]; omega), Bool.false_and]
section
variable (B : Hd → Nat → Bool)
theorem all_flat : ∀ m : Nat, (∀ t, wt t ≤ m → allT B t = (flatT t).all fun t => B t.h t.ks.length) ∧ (∀ ts, wts ts ≤ m → allK B ts = (flatK ts).all fun t => B t.h t.ks.length) := by
 intro m
 induction m with
 | zero =>
  refine ⟨fun t h => by have := wt_pos t; omega, fun ts h => ?_⟩
  cases ts with
  | nil => rw [flatK_nil, allK_nil]; rfl
  | cons t ts => rw [wts_cons] at h; have := wt_pos t; omega
 | succ m ih =>
  have hT : ∀ t, wt t ≤ m + 1 → allT B t = (flatT t).all fun t => B t.h t.ks.length := by
   intro t h
   have hk := wt_ks t
   rw [allT_eq, flatT_eq, List.all_cons, ih.2 t.ks (by omega)]
  refine ⟨hT, fun ts => ?_⟩
  induction ts with
  | nil => intro _; rw [flatK_nil, allK_nil]; rfl
  | cons t ts ihs =>
   intro h
   rw [wts_cons] at h
   rw [allK_cons, flatK_cons, List.all_append, hT t (by omega), ihs (by omega)]
theorem allT_flat (t : AT) : allT B t = (flatT t).all fun t => B t.h t.ks.length := (all_flat B (wt t)).1 t (Nat.le_refl _)
end
theorem fo_may (t : AT) : (foT mayB mayS t 40000).1 = mayT t := by
 rw [foT_flat, foL_may _ _ (by omega), flatT_len, ← allT_flat]
 unfold mayT
 congr 1
 rw [decide_eq_decide]
 omega

/-! ### Apart -/
/-- What is met behind a node's own, up to the first one that was met. -/
def metI : List Int → List Int → List Int
 | met, [] => met
 | met, x :: xs => if met.contains x = true then met else metI (met ++ [x]) xs
theorem metI_no : ∀ (xs met : List Int), metO met xs = false → metI met xs = met ++ xs
 | [], met, _ => by rw [metI, List.append_nil]
 | x :: xs, met, h => by
  rw [metO, Bool.or_eq_false_iff] at h
  rw [metI, if_neg (by rw [h.1]; exact Bool.false_ne_true), metI_no xs _ h.2, List.append_assoc]; rfl
/-- What is met, and where one was met again. -/
def apS (s : List Int × Option Int) (t : AT) : List Int × Option Int := (metI s.1 (ownH t.h), if metO s.1 (ownH t.h) = true then some t.h.h.pl else s.2)
def apB (s : List Int × Option Int) (t : AT) : Bool := !metO s.1 (ownH t.h)
theorem foL_apart : ∀ (l : List AT) (met : List Int), (foL apB apS l (met, none)).1 = (apartL l met).isNone ∧ (foL apB apS l (met, none)).2.2 = apartL l met
 | [], met => ⟨rfl, rfl⟩
 | t :: ts, met => by
  rw [foL, apartL]
  by_cases hm : metO met (ownH t.h) = true
  ·have hb : apB (met, none) t = false := by unfold apB; simp only; rw [hm]; rfl
   have hs : (apS (met, none) t).2 = some t.h.h.pl := by unfold apS; simp only; rw [if_pos hm]
   rw [hb, if_neg Bool.false_ne_true, if_pos hm]
   exact ⟨rfl, hs⟩
  ·have hm' : metO met (ownH t.h) = false := by simpa using hm
   have hb : apB (met, none) t = true := by unfold apB; simp only; rw [hm']; rfl
   have hs : apS (met, none) t = (met ++ ownH t.h, none) := by unfold apS; simp only; rw [if_neg hm, metI_no _ _ hm']
   rw [hb, if_pos rfl, if_neg hm, hs]
   exact foL_apart ts _
theorem fo_apart (t : AT) : (foT apB apS t ([], none)).1 = (apartT t).isNone ∧ (foT apB apS t ([], none)).2.2 = apartT t := by
 rw [foT_flat]
 exact foL_apart _ _
end Aterm
end Go.Proofs.YtfncpcijfphngaaGreatDoor
namespace Go.Proofs.YtfncpcijfphngaaGreatDoor
open Go.RowKit
set_option linter.unusedVariables false
namespace Effect

/-- A text of one byte. -/
def oneB (x : Int) : ByteArray := ⟨#[UInt8.ofNat x.toNat]⟩
theorem byte_back (w : World) (x : Int) :
  (convert 61 9 (.slice (some ⟨w.heap.size, 0, none⟩) 1 1)).run Tryz.prog (w.alloc (.cells #[.int .u8 x] 5)) = .ok (.string (oneB x)) (w.alloc (.cells #[.int .u8 x] 5)) := by
 have := run_convert_bytes_arg (P := Tryz.prog) (w.alloc (.cells #[.int .u8 x] 5)) 61 5 Tryz.underlying61 Tryz.underlying5 w.heap.size 0 1 1 [x] rfl (fun i hi => by
  have : i = 0 := by omega
  subst this
  simp [go_sem]) 9 Tryz.underlying9
 exact this

theorem dig_small (n : Int) (h0 : 0 ≤ n) (h : n < 10) : oneB (48 + n % 10) = ⟨(Lib.decDigits n.toNat).toArray⟩ := by
 unfold oneB
 rw [Lib.decDigits_one (by omega), show (48 + n % 10).toNat = 48 + n.toNat from by omega]
theorem dig_big (n : Int) (h : ¬ n < 10) : (⟨(Lib.decDigits (n / 10).toNat).toArray⟩ : ByteArray) ++ oneB (48 + n % 10) = ⟨(Lib.decDigits n.toNat).toArray⟩ := by
 apply bytes_ext
 rw [Lib.decDigits.eq_1 n.toNat, dif_neg (by omega)]
 unfold oneB
 rw [show (48 + n % 10).toNat = 48 + n.toNat % 10 from by omega, show (n / 10).toNat = n.toNat / 10 from by omega]
 simp [ByteArray.data_append]

theorem dig_add (n : Int) (h : ¬ n < 10) (h1 : n ≤ 9223372036854775807) (W : World) :
  (Op.stringOp .add (⟨(Lib.decDigits (n / 10).toNat).toArray⟩ : ByteArray) (oneB (48 + n % 10))).run Tryz.prog W = .ok (.string ⟨(Lib.decDigits n.toNat).toArray⟩) W := by
 rw [run_string_add_sum, dig_big n h]
 have e1 : (⟨(Lib.decDigits (n / 10).toNat).toArray⟩ : ByteArray).size = (Lib.decDigits (n / 10).toNat).length := by simp [ByteArray.size]
 have e2 : (oneB (48 + n % 10)).size = 1 := rfl
 have := Lib.nDigits_le20 (n / 10).toNat (by omega)
 rw [← Lib.decDigits_length] at this
 omega

set_option maxHeartbeats 400000 in
theorem refDigits_nat (k : Nat) : ∀ (n : Int) (w : World), n ≤ k → 0 ≤ n → n ≤ 9223372036854775807 →
  Calls Tryz.prog 19 #[.int .i64 n] w fun e w' => e = .returned (.string ⟨(Lib.decDigits n.toNat).toArray⟩) ∧ Below w.heap.size w w' := by
 induction k with
 | zero =>
  intro n w hk h0 h1
  have hbk := fun W => byte_back W (48 + n % 10)
  have hd := dig_small n h0 (by omega)
  have HD := Lib.hid hd; clear hd
  have hn : n < 10 := by omega
  go_enter Tryz.func19, Tryz.ntmps19
  go_wp2_with (fail)
  go_ret
  exact ⟨ret_str HD.out, (Below.refl _ _).alloc (Nat.le_refl _) _⟩
 | succ k ih =>
  intro n w hk h0 h1
  have hbk := fun W => byte_back W (48 + n % 10)
  by_cases hn : n < 10
  ·have hd := dig_small n h0 hn
   have HD := Lib.hid hd
   clear hd ih
   go_enter Tryz.func19, Tryz.ntmps19
   go_wp2_with (fail)
   go_ret
   exact ⟨ret_str HD.out, (Below.refl _ _).alloc (Nat.le_refl _) _⟩
  ·have hd := dig_add n hn h1
   have IH := Lib.hid ih
   clear ih
   go_enter Tryz.func19, Tryz.ntmps19
   go_wp2_with (fail)
   refine (IH.out (n / 10) _ (by omega) (by omega) (by omega)).mono ?_
   rintro e w' ⟨rfl, hb⟩
   have hb2 : Below w.heap.size w w' := ((Below.refl _ _).alloc (Nat.le_refl _) _).trans (hb.mono (by simp))
   have HB := Lib.hid hb2; clear hb hb2 hbk
   go_wp2
   go_ret
   exact ⟨rfl, HB.out⟩

/-! ### Of any int64 -/
def least : Int := -9223372036854775808
def leastText : ByteArray := ⟨#[45, 57, 50, 50, 51, 51, 55, 50, 48, 51, 54, 56, 53, 52, 55, 55, 53, 56, 48, 56]⟩
theorem least_itoa : leastText = ⟨(Lib.itoa least).toArray⟩ := by
 unfold least leastText Lib.itoa
 simp [Lib.decDigits]
theorem neg_add (n : Int) (h : n < 0) (h1 : -9223372036854775808 ≤ n) (W : World) :
  (Op.stringOp .add (⟨#[45]⟩ : ByteArray) (⟨(Lib.decDigits (-n).toNat).toArray⟩ : ByteArray)).run Tryz.prog W = .ok (.string ⟨(Lib.itoa n).toArray⟩) W := by
 rw [run_string_add_sum]
 ·have : (⟨#[45]⟩ : ByteArray) ++ (⟨(Lib.decDigits (-n).toNat).toArray⟩ : ByteArray) = ⟨(Lib.itoa n).toArray⟩ := by
   apply bytes_ext
   unfold Lib.itoa
   rw [if_pos h, show n.natAbs = (-n).toNat from by omega]
   simp [ByteArray.data_append]
  rw [this]
 have e1 : (⟨(Lib.decDigits (-n).toNat).toArray⟩ : ByteArray).size = (Lib.decDigits (-n).toNat).length := by simp [ByteArray.size]
 have e2 : (⟨#[45]⟩ : ByteArray).size = 1 := rfl
 have := Lib.nDigits_le20 (-n).toNat (by omega)
 rw [← Lib.decDigits_length] at this
 omega

set_option maxHeartbeats 400000 in
theorem refDigits_walk (n : Int) (h0 : -9223372036854775808 ≤ n) (h1 : n ≤ 9223372036854775807) (w : World) :
  Calls Tryz.prog 19 #[.int .i64 n] w fun e w' => e = .returned (.string ⟨(Lib.itoa n).toArray⟩) ∧ Below w.heap.size w w' := by
 by_cases hn : n < 0
 ·by_cases hm : n = least
  ·have ht := least_itoa
   have hlt : least < 0 := by decide
   have HT := Lib.hid ht
   subst hm
   have e : (least == -9223372036854775808) = true := by decide
   clear ht h0 h1 hn
   go_enter Tryz.func19, Tryz.ntmps19
   go_wp2_with (fail)
   go_ret
   exact ⟨ret_str HT.out, Below.refl _ _⟩
  ·have hd := neg_add n hn h0
   have hne : (n == -9223372036854775808) = false := by rw [beq_eq_false_iff_ne]; exact hm
   have hlo : -9223372036854775807 ≤ n := by unfold least at hm; omega
   have HM := Lib.hid hm
   clear hm h0
   go_enter Tryz.func19, Tryz.ntmps19
   go_wp2_with (fail)
   refine (refDigits_nat (-n).toNat (-n) _ (by omega) (by omega) (by omega)).mono ?_
   rintro e w' ⟨rfl, hb⟩
   have HB := Lib.hid hb; clear hb hne
   go_wp2
   go_ret
   exact ⟨rfl, HB.out⟩
 ·refine (refDigits_nat n.toNat n w (by omega) (by omega) h1).mono ?_
  rintro e w' ⟨rfl, hb⟩
  refine ⟨ret_str ?_, hb⟩
  unfold Lib.itoa
  rw [if_neg hn]


end Effect
end Go.Proofs.YtfncpcijfphngaaGreatDoor

namespace Go.Proofs.YtfncpcijfphngaaGreatDoor
open Go.RowKit
set_option linter.unusedVariables false
set_option linter.unusedSimpArgs false
namespace Effect

theorem join_snoc (ss : List ByteArray) (s : ByteArray) : joinT (ss ++ [s]) = if ss = [] then s else joinT ss ++ sepW ++ s := by
 cases ss with
 | nil =>
  rw [if_pos rfl]
  apply bytes_ext
  unfold joinT
  simp [Lib.join_cons, Lib.joinTail]
 | cons x r =>
  rw [if_neg (by simp)]
  apply bytes_ext
  unfold joinT sepW
  simp [Lib.join_cons, Lib.joinTail, ByteArray.data_append]
theorem joinT_nil : joinT [] = ⟨#[]⟩ := by unfold joinT; simp [Lib.join_nil]
theorem joinT_size (ss : List ByteArray) (h : ∀ s ∈ ss, s.size ≤ 1004) : (joinT ss).size ≤ 1007 * ss.length := by
 have h1 : (joinT ss).size = (Lib.join (ss.map (·.data.toList)) [32, 44, 32]).length := by unfold joinT; simp [ByteArray.size]
 rw [h1]
 exact join_len ss h
set_option maxRecDepth 100000 in
set_option maxHeartbeats 12800000 in
theorem refText_walk {n c : Nat} {a : Option Addr} {l : List At} {w : World} (h : Rd w n a l) (hn : n ≤ 1000) (hsh : ∀ x ∈ ofA l, Sh x) : Calls Tryz.prog 28 #[.slice a n c] w fun e w' => e = .returned (.string (textE (ofA l))) ∧ Below w.heap.size w w' := by
 have HC := Lib.hid (refOf_walk (c := c) h (by omega)); have HSH := Lib.hid hsh
 have hat : ∀ x ∈ ofA l, atomB x = true := fun x hx => ((mem_of l x).1 hx).2
 clear h hsh
 generalize ofA l = u at *
 have HAT := Lib.hid hat
 clear hat
 go_enter Tryz.func28, Tryz.ntmps28
 go_wp2_with (fail)
 refine HC.out.mono ?_
 rintro e w1 ⟨a1, m, c1, rfl, hm, -, hr1, hb1⟩
 have HR := Lib.hid hr1; have HB := Lib.hid hb1; have HUL := Lib.hid hr1.len
 clear hr1 hb1
 go_wp2_with (fail)
 go_loopw [4, 5, 10] (fun out _ i wr => ∃ (j : Nat) (o : ByteArray), j ≤ m ∧ i = .int .i64 (j : Int) ∧ out = .string o ∧ Hid (o = joinT ((u.take j).map textA)) ∧ Hid (Below w1.heap.size w1 wr)) (fun _ _ i _ => m - (intOf i).toNat)
 case atStart => exact ⟨0, ⟨#[]⟩, Nat.zero_le _, rfl, rfl, Lib.hid (by rw [List.take_zero]; exact joinT_nil.symm), Lib.hid (Below.refl _ _)⟩
 case round =>
  obtain ⟨j, o, hj, rfl, rfl, HO, HS⟩ := hrel
  by_cases hlt : j < m
  ·have hjl : j < u.length := by rw [HUL.out]; exact hlt
   obtain ⟨b, q, rfl, e0, e1, e2⟩ := (HR.out.at_.below HS.out).get j hjl
   have hx := HSH.out _ (aget_mem hjl)
   have hax := HAT.out _ (aget_mem hjl)
   have htk := at_take u j hjl
   have hall : ∀ t, ∀ s ∈ (u.take t).map textA, s.size ≤ 1004 := fun t s hs => by
    obtain ⟨y, hy, rfl⟩ := List.mem_map.1 hs
    exact textA_size (HSH.out y (List.mem_of_mem_take hy))
   have hs0 := joinT_size _ (hall j)
   have hs1 := joinT_size _ (hall (j + 1))
   rw [List.length_map, List.length_take] at hs0 hs1
   rw [← HO.out] at hs0
   generalize aget u j = x at *
   obtain ⟨p0, hp0⟩ : ∃ p0, (if j = 0 then o else o ++ sepW) = p0 := ⟨_, rfl⟩
   have hnx : joinT ((u.take (j + 1)).map textA) = p0 ++ textA x := by
    rw [htk, List.map_append, List.map_cons, List.map_nil, join_snoc, ← hp0]
    by_cases h0 : j = 0
    ·subst h0
     have : o = ⟨#[]⟩ := by rw [HO.out, List.take_zero]; exact joinT_nil
     rw [if_pos (by simp), if_pos rfl, this]
     apply bytes_ext
     simp [ByteArray.data_append]
    ·rw [if_neg (by
      intro e
      have := congrArg List.length e
      rw [List.length_map, List.length_take] at this
      rw [List.length_nil] at this
      omega), if_neg h0, ← HO.out]
   have hps : p0.size ≤ 1007 * 1000 + 3 := by
    rw [← hp0]
    have e3 : sepW.size = 3 := rfl
    split
    ·omega
    ·rw [ByteArray.size_append]; omega
   have HNX := Lib.hid hnx; have HSZ1 := Lib.hid (show (joinT ((u.take (j + 1)).map textA)).size ≤ 1007 * 1000 by omega)
   have HDG := Lib.hid fun W => refDigits_walk x.r (by have := hx.r0; omega) hx.r1 W
   have hds := digs_size x.r hx.r0 hx.r1
   have hxs := hx.x
   have hsep : j ≠ 0 → ∀ W, (Op.stringOp .add o ⟨#[32, 44, 32]⟩).run Tryz.prog W = .ok (.string p0) W := fun h0 W => add_run o sepW p0 (by rw [← hp0, if_neg h0]) (by omega) W
   have hst : j = 0 → p0 = o := fun h0 => by rw [← hp0, if_pos h0]
   have hk123 : x.k = 1 ∨ x.k = 2 ∨ x.k = 3 := by
    unfold atomB at hax
    by_cases h3 : x.k = 3
    ·exact .inr (.inr h3)
    ·rw [if_neg h3] at hax
     simp at hax
     omega
   have HSEP := Lib.hid hsep; have HST := Lib.hid hst
   clear hjl hx hax htk hall hs0 hs1 hp0 hnx hsep hst
   rcases hk123 with hk | hk | hk
   ·have hk1 : (x.k == 1) = true := by simp; omega
    have hk2 : (x.k == 2) = false := by simp; omega
    have hk3 : (x.k == 3) = false := by simp; omega
    have HK := Lib.hid hk
    have hfin : p0 ++ getW ++ digs x.r = joinT ((u.take (j + 1)).map textA) := by rw [HNX.out]; unfold textA; rw [if_pos hk]; rw [ByteArray.append_assoc]
    have hsz0 : (getW : ByteArray).size = 4 := rfl
    have hr2 := add_run p0 getW _ rfl (by rw [ByteArray.size_append]; omega)
    have hr3 := add_run (p0 ++ getW) (digs x.r) _ hfin (by have := HSZ1.out; omega)
    unfold getW at hr2 hr3
    generalize ho2 : joinT ((u.take (j + 1)).map textA) = out2 at *
    have HO2 := Lib.hid ho2
    clear ho2
    clear hfin hk hds hxs hsz0
    have HDG2 := Lib.hid fun W => show Calls Tryz.prog 19 #[.int .i64 x.r] W fun e w' => e = .returned (.string (digs x.r)) ∧ Below W.heap.size W w' from HDG.out W
    generalize digs x.r = dg at *
    by_cases h0 : j = 0
    ·have hpe := HST.out h0
     rw [hpe] at hr2 hr3
     have hjz : j < 1 := by omega
     clear hpe h0
     go_wp2_with (fail)
     refine (HDG2.out _).mono ?_
     rintro e w2 ⟨rfl, hb2⟩
     have HS2 := Lib.hid (below_then HS.out hb2 HS.out.size)
     have e0b := (hb2.cell (p := ⟨b, q + j * 3, none⟩) (World.block_lt_of_cell? wr _ e0)).trans e0
     clear hb2 e0 e1 e2
     go_wp2_with (fail)
     go_roundw
     case rel => exact ⟨j + 1, out2, by omega, by go_num, rfl, Lib.hid HO2.out.symm, HS2⟩
     case measure => simp [intOf]; omega
    ·have hsp := HSEP.out h0
     have hjz : 0 < j := by omega
     clear h0
     go_wp2_with (fail)
     refine (HDG2.out _).mono ?_
     rintro e w2 ⟨rfl, hb2⟩
     have HS2 := Lib.hid (below_then HS.out hb2 HS.out.size)
     have e0b := (hb2.cell (p := ⟨b, q + j * 3, none⟩) (World.block_lt_of_cell? wr _ e0)).trans e0
     clear hb2 e0 e1 e2
     go_wp2_with (fail)
     go_roundw
     case rel => exact ⟨j + 1, out2, by omega, by go_num, rfl, Lib.hid HO2.out.symm, HS2⟩
     case measure => simp [intOf]; omega
   ·have hk1 : (x.k == 1) = false := by simp; omega
    have hk2 : (x.k == 2) = true := by simp; omega
    have hk3 : (x.k == 3) = false := by simp; omega
    have HK := Lib.hid hk
    have hfin : p0 ++ putW ++ digs x.r = joinT ((u.take (j + 1)).map textA) := by rw [HNX.out]; unfold textA; rw [if_neg (by omega), if_pos hk]; rw [ByteArray.append_assoc]
    have hsz0 : (putW : ByteArray).size = 4 := rfl
    have hr2 := add_run p0 putW _ rfl (by rw [ByteArray.size_append]; omega)
    have hr3 := add_run (p0 ++ putW) (digs x.r) _ hfin (by have := HSZ1.out; omega)
    unfold putW at hr2 hr3
    generalize ho2 : joinT ((u.take (j + 1)).map textA) = out2 at *
    have HO2 := Lib.hid ho2
    clear ho2
    clear hfin hk hds hxs hsz0
    have HDG2 := Lib.hid fun W => show Calls Tryz.prog 19 #[.int .i64 x.r] W fun e w' => e = .returned (.string (digs x.r)) ∧ Below W.heap.size W w' from HDG.out W
    generalize digs x.r = dg at *
    by_cases h0 : j = 0
    ·have hpe := HST.out h0
     rw [hpe] at hr2 hr3
     have hjz : j < 1 := by omega
     clear hpe h0
     go_wp2_with (fail)
     refine (HDG2.out _).mono ?_
     rintro e w2 ⟨rfl, hb2⟩
     have HS2 := Lib.hid (below_then HS.out hb2 HS.out.size)
     have e0b := (hb2.cell (p := ⟨b, q + j * 3, none⟩) (World.block_lt_of_cell? wr _ e0)).trans e0
     clear hb2 e0 e1 e2
     go_wp2_with (fail)
     go_roundw
     case rel => exact ⟨j + 1, out2, by omega, by go_num, rfl, Lib.hid HO2.out.symm, HS2⟩
     case measure => simp [intOf]; omega
    ·have hsp := HSEP.out h0
     have hjz : 0 < j := by omega
     clear h0
     go_wp2_with (fail)
     refine (HDG2.out _).mono ?_
     rintro e w2 ⟨rfl, hb2⟩
     have HS2 := Lib.hid (below_then HS.out hb2 HS.out.size)
     have e0b := (hb2.cell (p := ⟨b, q + j * 3, none⟩) (World.block_lt_of_cell? wr _ e0)).trans e0
     clear hb2 e0 e1 e2
     go_wp2_with (fail)
     go_roundw
     case rel => exact ⟨j + 1, out2, by omega, by go_num, rfl, Lib.hid HO2.out.symm, HS2⟩
     case measure => simp [intOf]; omega
   ·have hk1 : (x.k == 1) = false := by simp; omega
    have hk2 : (x.k == 2) = false := by simp; omega
    have hk3 : (x.k == 3) = true := by simp; omega
    have HK := Lib.hid hk
    have hfin : p0 ++ exnW ++ x.x = joinT ((u.take (j + 1)).map textA) := by rw [HNX.out]; unfold textA; rw [if_neg (by omega), if_neg (by omega)]; rw [ByteArray.append_assoc]
    have hsz0 : (exnW : ByteArray).size = 4 := rfl
    have hr2 := add_run p0 exnW _ rfl (by rw [ByteArray.size_append]; omega)
    have hr3 := add_run (p0 ++ exnW) (x.x) _ hfin (by have := HSZ1.out; omega)
    unfold exnW at hr2 hr3
    generalize ho2 : joinT ((u.take (j + 1)).map textA) = out2 at *
    have HO2 := Lib.hid ho2
    clear ho2
    clear hfin hk hds hxs hsz0
    by_cases h0 : j = 0
    ·have hpe := HST.out h0
     rw [hpe] at hr2 hr3
     have hjz : j < 1 := by omega
     clear hpe h0
     go_wp2_with (fail)
     go_roundw
     case rel => exact ⟨j + 1, out2, by omega, by go_num, rfl, Lib.hid HO2.out.symm, HS⟩
     case measure => simp [intOf]; omega
    ·have hsp := HSEP.out h0
     have hjz : 0 < j := by omega
     clear h0
     go_wp2_with (fail)
     go_roundw
     case rel => exact ⟨j + 1, out2, by omega, by go_num, rfl, Lib.hid HO2.out.symm, HS⟩
     case measure => simp [intOf]; omega
  ·obtain rfl : j = m := by omega
   have ho := HO.out
   rw [List.take_of_length_le (by rw [HUL.out]; exact Nat.le_refl _)] at ho
   have HOF := Lib.hid ho
   have HBB := Lib.hid (below_then HB.out HS.out HB.out.size)
   clear ho
   by_cases h0 : j = 0
   ·subst h0
    have HU := Lib.hid (List.eq_nil_of_length_eq_zero HUL.out)
    go_wp2_with (fail)
    go_ret
    exact ⟨ret_str (by unfold textE; rw [if_pos HU.out]; rfl), HBB.out⟩
   ·have HU := Lib.hid (show u ≠ [] from fun e => h0 (by have := HUL.out; rw [e] at this; exact this.symm))
    go_wp2_with (fail)
    go_ret
    exact ⟨ret_str (by unfold textE; rw [if_neg HU.out]; exact HOF.out), HBB.out⟩
end Effect
end Go.Proofs.YtfncpcijfphngaaGreatDoor
namespace Go.Proofs.YtfncpcijfphngaaGreatDoor
open Go.RowKit
set_option linter.unusedVariables false
set_option linter.unusedSimpArgs false
namespace Rt
open Effect (At AtOk AtsAt Rd ofA textE Sh digs)
open Types (jb bl wInt wOpen wShut wStar wRef wArrow bl_jb bl_append bl_inj bl_app bl_cons bl_one jb_one jb_list)

def wAt : ByteArray := ⟨#[64]⟩
def wBang : ByteArray := ⟨#[33]⟩
def kw (ks : List (List ByteArray)) (i : Nat) : List ByteArray := ks.getD i []
def comb (h : Hd) (ks : List (List ByteArray)) : List ByteArray :=
 if h.k = 1 then [wInt] else wOpen :: ((if h.k = 2 then kw ks 0 ++ (wStar :: kw ks 1) else if h.k = 3 then wRef :: kw ks 0 else kw ks 0 ++ (wArrow :: (kw ks 1 ++ [wBang, textE (ofA h.e)]))) ++ [wAt, digs h.r, wShut])
mutual
/-- A type's words. -/
def wordsT : RT → List ByteArray
 | .node h l => comb h (wordsK l)
def wordsK : List RT → List (List ByteArray)
 | [] => []
 | t :: ts => wordsT t :: wordsK ts
end
theorem wordsT_eq (t : RT) : wordsT t = comb t.h (wordsK t.ks) := by cases t; conv => lhs; unfold wordsT
                                                                     rfl
theorem wordsK_map : ∀ ts : List RT, wordsK ts = ts.map wordsT
 | [] => by unfold wordsK; rfl
 | t :: ts => by unfold wordsK; rw [wordsK_map ts]; rfl
theorem kw_get {ts : List RT} {i : Nat} (h : i < ts.length) : kw (wordsK ts) i = wordsT (tget ts i) := by
 unfold kw tget
 rw [wordsK_map, List.getD_eq_getElem?_getD, List.getElem?_map, List.getElem?_eq_getElem h, List.getD_eq_getElem?_getD, List.getElem?_eq_getElem h]
 rfl
theorem words_pos : ∀ m : Nat, ∀ t, wt t ≤ m → mayT t = true → 1 ≤ (wordsT t).length ∧ (wordsT t).length ≤ 8 * wt t := by
 intro m
 induction m with
 | zero => intro t h; have := wt_pos t; omega
 | succ m ih =>
  intro t h hm
  obtain ⟨hk, -, -, -, -⟩ := may_node hm
  rw [wordsT_eq]
  unfold comb
  have hp := wt_pos t
  rcases hk with ⟨hk, hl, -⟩ | ⟨hk, hl⟩ | ⟨hk, hl⟩
  ·simp [hk]; omega
  ·have h0 := ih (tget t.ks 0) (by have := wt1 hl; omega) (may_kid hm (by omega))
   have hw := wt1 hl
   simp only [hk, kw_get (show 0 < t.ks.length by omega)]
   simp
   omega
  ·have h0 := ih (tget t.ks 0) (by have := wt2 hl; omega) (may_kid hm (by omega))
   have h1 := ih (tget t.ks 1) (by have := wt2 hl; omega) (may_kid hm (by omega))
   have hw := wt2 hl
   rcases hk with hk | hk
   all_goals
    simp only [hk, kw_get (show 0 < t.ks.length by omega), kw_get (show 1 < t.ks.length by omega)]
    simp
    omega
theorem words_le {t : RT} (h : mayT t = true) : (wordsT t).length ≤ 8 * wt t := (words_pos _ t (Nat.le_refl _) h).2
theorem words_nil {t : RT} (h : mayT t = true) : wordsT t ≠ [] := by
 have := (words_pos _ t (Nat.le_refl _) h).1
 intro e
 rw [e] at this
 simp at this

/-- Words of up to n bytes. -/
def Short (n : Nat) (ss : List ByteArray) : Prop := ∀ s ∈ ss, s.size ≤ n
theorem Short.append {n : Nat} {a b : List ByteArray} (h : Short n a) (k : Short n b) : Short n (a ++ b) := fun s hs => by
 rcases List.mem_append.1 hs with hs | hs
 ·exact h s hs
 ·exact k s hs
theorem Short.cons {n : Nat} {x : ByteArray} {a : List ByteArray} (hx : x.size ≤ n) (h : Short n a) : Short n (x :: a) := fun s hs => by
 rcases List.mem_cons.1 hs with rfl | hs
 ·exact hx
 ·exact h s hs
theorem Short.nil (n : Nat) : Short n [] := fun s hs => by cases hs
theorem joinTail_len : ∀ r : List (List UInt8), (Lib.joinTail [32] r).length = (r.map (fun x => 1 + x.length)).sum
 | [] => rfl
 | x :: r => by
  have ih := joinTail_len r
  unfold Lib.joinTail at ih ⊢
  rw [List.map_cons, List.flatten_cons, List.length_append, ih, List.map_cons, List.sum_cons, List.length_append]
  rfl
theorem sum_len (n : Nat) : ∀ r : List ByteArray, (∀ s ∈ r, s.size ≤ n) → ((r.map (·.data.toList)).map (fun x => 1 + x.length)).sum ≤ (n + 1) * r.length
 | [], _ => Nat.le_refl _
 | y :: r, h => by
  have hy : y.data.toList.length ≤ n := h y (List.mem_cons_self ..)
  have ih := sum_len n r (fun s hs => h s (List.mem_cons_of_mem _ hs))
  rw [List.map_cons, List.map_cons, List.sum_cons]
  show 1 + y.data.toList.length + _ ≤ (n + 1) * (r.length + 1)
  rw [Nat.mul_succ]
  omega
theorem jb_size {n : Nat} (ss : List ByteArray) (h : Short n ss) : (jb ss).size ≤ (n + 1) * ss.length := by
 have e : (jb ss).size = (Lib.join (ss.map (·.data.toList)) [32]).length := by rw [← jb_list]; rfl
 rw [e]
 cases ss with
 | nil => simp [Lib.join_nil]
 | cons x r =>
  rw [List.map_cons, Lib.join_cons, List.length_append, joinTail_len]
  have hx : x.data.toList.length ≤ n := h x (List.mem_cons_self ..)
  have hr := sum_len n r (fun s hs => h s (List.mem_cons_of_mem _ hs))
  show _ ≤ (n + 1) * (r.length + 1)
  rw [Nat.mul_succ]
  omega
/-- An atom's text is short. -/
theorem sh_of {x : At} (hx : AtOk x) (ha : Effect.atomB x = true) {n : Nat} (hn : x.x.size ≤ n) (hnn : n ≤ 1000) : Sh x := by
 refine ⟨?_, hx.r.2, by omega⟩
 unfold Effect.atomB at ha
 split at ha
 ·rw [Bool.and_eq_true] at ha
  have := of_decide_eq_true ha.1
  omega
 ·rw [Bool.and_eq_true, Bool.and_eq_true] at ha
  exact of_decide_eq_true ha.1.2
theorem sh_eff {e : List At} (hok : ∀ x ∈ e, AtOk x) {n : Nat} (hn : ∀ x ∈ e, x.x.size ≤ n) (hnn : n ≤ 1000) : ∀ x ∈ ofA e, Sh x := fun x hx => by
 obtain ⟨h1, h2⟩ := (Effect.mem_of _ _).1 hx
 exact sh_of (hok x h1) h2 (hn x h1) hnn
theorem textE_size {e : List At} (h : ∀ x ∈ ofA e, Sh x) {n : Nat} (hn : e.length ≤ n) : (textE (ofA e)).size ≤ 1007 * n + 4 := by
 unfold textE
 split
 ·show 4 ≤ _; omega
 ·have h1 := Effect.joinT_size ((ofA e).map Effect.textA) (fun s hs => by
   obtain ⟨x, hx, rfl⟩ := List.mem_map.1 hs
   exact Effect.textA_size (h x hx))
  rw [List.length_map] at h1
  have h2 := Effect.of_le e
  have h3 : 1007 * (ofA e).length ≤ 1007 * n := Nat.mul_le_mul_left _ (by omega)
  omega
theorem words_short {n : Nat} (hnn : n ≤ 1000) : ∀ m : Nat, ∀ t : RT, wt t ≤ m → mayT t = true → allT (effB n) t = true → allT (fun h _ => decide (h.r ≤ 9223372036854775807 ∧ ∀ x ∈ h.e, x.r ≤ 9223372036854775807)) t = true → Short (1007 * n + 20) (wordsT t) := by
 intro m
 induction m with
 | zero => intro t h; have := wt_pos t; omega
 | succ m ih =>
  intro t h hm he hi
  obtain ⟨hk, hv, -, -, -⟩ := may_node hm
  have hi2 := hi
  rw [allT_eq, Bool.and_eq_true] at hi2
  have he2 := he
  rw [allT_eq, Bool.and_eq_true] at he2
  obtain ⟨hr, hx⟩ := of_decide_eq_true hi2.1
  obtain ⟨hel, hes⟩ := eff_iff.1 he2.1
  have hkid : ∀ i, i < t.ks.length → Short (1007 * n + 20) (wordsT (tget t.ks i)) := fun i hl => ih _ (by have := wts_get hl; have := wt_ks t; omega) (may_kid hm hl) (allK_get _ hl he2.2) (allK_get _ hl hi2.2)
  have hd : (digs t.h.r).size ≤ 1007 * n + 20 := by have := Effect.digs_size t.h.r hv hr; omega
  have hte : (textE (ofA t.h.e)).size ≤ 1007 * n + 20 := by
   have := textE_size (e := t.h.e) (fun x hx2 => by
    obtain ⟨h1, h2⟩ := (Effect.mem_of _ _).1 hx2
    refine ⟨?_, hx x h1, by have := hes x h1; omega⟩
    unfold Effect.atomB at h2
    split at h2
    ·rw [Bool.and_eq_true] at h2; have := of_decide_eq_true h2.1; omega
    ·rw [Bool.and_eq_true, Bool.and_eq_true] at h2; exact of_decide_eq_true h2.1.2) hel
   omega
  have htail : Short (1007 * n + 20) [wAt, digs t.h.r, wShut] := Short.cons (show (1 : Nat) ≤ _ by omega) (Short.cons hd (Short.cons (show (1 : Nat) ≤ _ by omega) (Short.nil _)))
  rw [wordsT_eq]
  unfold comb
  rcases hk with ⟨hk, hl, -⟩ | ⟨hk, hl⟩ | ⟨hk, hl⟩
  ·rw [if_pos hk]; exact Short.cons (show (3 : Nat) ≤ _ by omega) (Short.nil _)
  ·rw [if_neg (by omega), if_neg (by omega), if_pos hk, kw_get (show 0 < t.ks.length by omega)]
   exact Short.cons (show (1 : Nat) ≤ _ by omega) ((Short.cons (show (3 : Nat) ≤ _ by omega) (hkid 0 (by omega))).append htail)
  ·rcases hk with hk | hk
   ·rw [if_neg (by omega), if_pos hk, kw_get (show 0 < t.ks.length by omega), kw_get (show 1 < t.ks.length by omega)]
    exact Short.cons (show (1 : Nat) ≤ _ by omega) (((hkid 0 (by omega)).append (Short.cons (show (1 : Nat) ≤ _ by omega) (hkid 1 (by omega)))).append htail)
   ·rw [if_neg (by omega), if_neg (by omega), if_neg (by omega), kw_get (show 0 < t.ks.length by omega), kw_get (show 1 < t.ks.length by omega)]
    exact Short.cons (show (1 : Nat) ≤ _ by omega) (((hkid 0 (by omega)).append (Short.cons (show (2 : Nat) ≤ _ by omega) ((hkid 1 (by omega)).append (Short.cons (show (1 : Nat) ≤ _ by omega) (Short.cons hte (Short.nil _)))))).append htail)
/-- Numbers of types that lie in memory are in range. -/
theorem in_range {w : World} {p : Option Addr} {ts : List RT} (h : Kids w p ts) : allK (fun h _ => decide (h.r ≤ 9223372036854775807 ∧ ∀ x ∈ h.e, x.r ≤ 9223372036854775807)) ts = true := by
 induction h with
 | nokids p => exact allK_nil _
 | atkids b o ts q c qe ce hh hc hl he hk ih =>
  have : ∀ us : List RT, (∀ u ∈ us, allT (fun h _ => decide (h.r ≤ 9223372036854775807 ∧ ∀ x ∈ h.e, x.r ≤ 9223372036854775807)) u = true) → allK (fun h _ => decide (h.r ≤ 9223372036854775807 ∧ ∀ x ∈ h.e, x.r ≤ 9223372036854775807)) us = true := by
   intro us
   induction us with
   | nil => intro _; exact allK_nil _
   | cons u us ihu => intro hu; rw [allK_cons, hu u List.mem_cons_self, ihu (fun x hx => hu x (List.mem_cons_of_mem _ hx))]; rfl
  refine this ts (fun u hu => ?_)
  obtain ⟨i, hi, e⟩ := List.getElem_of_mem hu
  have e2 : tget ts i = u := by
   have := tget_at hi
   rw [List.getElem?_eq_getElem hi, e] at this
   exact (Option.some.inj this).symm
  have := ih i hi
  rw [e2] at this
  have ho := hh i hi
  rw [e2] at ho
  rw [allT_eq, this, Bool.and_true]
  exact decide_eq_true ⟨ho.r.2, fun x hx => (ho.e x hx).r.2⟩
theorem in_rangeT {w : World} {h : Hd} {pe : Option Addr} {ne ce : Nat} {p : Option Addr} {l c : Nat} {t : RT} (hT : RtIs w h pe ne ce p l c t) : allT (fun h _ => decide (h.r ≤ 9223372036854775807 ∧ ∀ x ∈ h.e, x.r ≤ 9223372036854775807)) t = true := by
 rw [allT_eq, in_range hT.kids, hT.head, Bool.and_true]
 exact decide_eq_true ⟨hT.ok.r.2, fun x hx => (hT.ok.e x hx).r.2⟩
theorem text_size {w : World} {h : Hd} {pe : Option Addr} {ne ce : Nat} {p : Option Addr} {l c : Nat} {t : RT} (hT : RtIs w h pe ne ce p l c t) (hm : mayT t = true) {n : Nat} (hnn : n ≤ 1000) (he : allT (effB n) t = true) : (jb (wordsT t)).size ≤ (1007 * n + 21) * (8 * wt t) := by
 have h1 := jb_size _ (words_short hnn _ t (Nat.le_refl _) hm he (in_rangeT hT))
 have h2 := words_le hm
 exact Nat.le_trans h1 (Nat.mul_le_mul_left _ h2)
/-- A kid's text is no longer than the whole. -/
theorem jb_part {a b c : List ByteArray} : (jb b).size ≤ (jb (a ++ b ++ c)).size := by
 have e : ∀ ss, (jb ss).size = (Lib.join (ss.map (·.data.toList)) [32]).length := fun ss => by rw [← jb_list]; rfl
 by_cases hb : b = []
 ·subst hb; exact Nat.zero_le _
 have hb' : b.map (·.data.toList) ≠ [] := by simpa using hb
 rw [e, e, List.map_append, List.map_append]
 generalize a.map (·.data.toList) = x at *
 generalize b.map (·.data.toList) = y at *
 generalize c.map (·.data.toList) = z at *
 have h1 : (Lib.join y [32]).length ≤ (Lib.join (x ++ y) [32]).length := by
  by_cases hx : x = []
  ·subst hx; exact Nat.le_refl _
  ·rw [Types.join_app x y hx hb', List.length_append, List.length_cons]; omega
 have h2 : (Lib.join (x ++ y) [32]).length ≤ (Lib.join (x ++ y ++ z) [32]).length := by
  by_cases hz : z = []
  ·subst hz; rw [List.append_nil]; exact Nat.le_refl _
  ·rw [Types.join_app (x ++ y) z (by simp [hb']) hz, List.length_append]; omega
 omega
end Rt
end Go.Proofs.YtfncpcijfphngaaGreatDoor
namespace Go.Proofs.YtfncpcijfphngaaGreatDoor
open Go.RowKit
set_option linter.unusedVariables false
set_option linter.unusedSimpArgs false
namespace Disp
open Aterm (AT Hd tget wt wts nodeB allT allK)
open Effect (At ofA textE textA digs atomB)
open Types (jb bl wInt wOpen wShut wStar wRef wArrow bl_jb bl_inj bl_app bl_cons bl_one bl_append jb_one)
open Rt (wAt wBang kw)

def wComma : ByteArray := ⟨#[44]⟩
def wColon : ByteArray := ⟨#[58]⟩
def wPut : ByteArray := ⟨#[58, 61]⟩
def wTo : ByteArray := ⟨#[61, 62]⟩
def wIs : ByteArray := ⟨#[61]⟩
def wAdd : ByteArray := ⟨#[43]⟩
def wSub : ByteArray := ⟨#[45]⟩
def wLess : ByteArray := ⟨#[60]⟩
def wBrO : ByteArray := ⟨#[91]⟩
def wBrC : ByteArray := ⟨#[93]⟩
def wFst : ByteArray := ⟨#[102, 115, 116]⟩
def wSnd : ByteArray := ⟨#[115, 110, 100]⟩
def wFn : ByteArray := ⟨#[102, 110]⟩
def wLet : ByteArray := ⟨#[108, 101, 116]⟩
def wLetrec : ByteArray := ⟨#[108, 101, 116, 114, 101, 99]⟩
def wIn : ByteArray := ⟨#[105, 110]⟩
def wIf : ByteArray := ⟨#[105, 102]⟩
def wThen : ByteArray := ⟨#[116, 104, 101, 110]⟩
def wElse : ByteArray := ⟨#[101, 108, 115, 101]⟩
def wRaise : ByteArray := ⟨#[114, 97, 105, 115, 101]⟩
def wTry : ByteArray := ⟨#[116, 114, 121]⟩
def wWith : ByteArray := ⟨#[119, 105, 116, 104]⟩
def wRegion : ByteArray := ⟨#[114, 101, 103, 105, 111, 110]⟩
def signW (op : Int) : ByteArray := if op = 1 then wAdd else if op = 2 then wSub else if op = 3 then wStar else if op = 4 then wLess else wIs
def tyT (t : Rt.RT) : ByteArray := jb (Rt.wordsT t)
def efT (e : List At) : ByteArray := textE (ofA e)
def rhosW (rs : List Int) : List ByteArray := wBrO :: (rs.map digs ++ [wBrC])
def atW (r : Int) : List ByteArray := [wAt, digs r]
/-- What stands between a node's brackets. -/
def inW (h : Hd) (ks : List (List ByteArray)) : List ByteArray :=
 if h.h.k = 3 then kw ks 0 ++ ([wComma] ++ (kw ks 1 ++ atW h.rho))
 else if h.h.k = 4 then [wFst] ++ kw ks 0 else if h.h.k = 5 then [wSnd] ++ kw ks 0 else if h.h.k = 6 then [wRef] ++ (kw ks 0 ++ atW h.rho) else if h.h.k = 7 then [wBang] ++ kw ks 0
 else if h.h.k = 8 then kw ks 0 ++ ([wPut] ++ kw ks 1) else if h.h.k = 9 then kw ks 0 ++ ([signW h.h.op] ++ kw ks 1) else if h.h.k = 10 then kw ks 0 ++ kw ks 1
 else if h.h.k = 11 then [wFn, h.h.arg, wColon, tyT h.ty, wBang, efT h.e, wTo] ++ (kw ks 0 ++ atW h.rho)
 else if h.h.k = 12 then [wLet, h.h.name, wIs] ++ (kw ks 0 ++ ([wIn] ++ kw ks 1))
 else if h.h.k = 13 then [wLetrec, h.h.name] ++ (rhosW h.rhos ++ ([h.h.arg, wColon, tyT h.ty, wArrow, tyT h.re, wBang, efT h.e, wIs] ++ (kw ks 0 ++ (atW h.rho ++ ([wIn] ++ kw ks 1)))))
 else if h.h.k = 14 then [wIf] ++ (kw ks 0 ++ ([wThen] ++ (kw ks 1 ++ ([wElse] ++ kw ks 2))))
 else if h.h.k = 15 then [wRaise, h.h.exn] ++ (kw ks 0 ++ [wColon, tyT h.ty])
 else if h.h.k = 16 then [wTry] ++ (kw ks 0 ++ ([wWith, h.h.exn, h.h.arg, wTo] ++ kw ks 1))
 else if h.h.k = 17 then [wRegion, digs h.rho, wIn] ++ kw ks 0
 else [h.h.name] ++ (rhosW h.rhos ++ ([wBang, efT h.e] ++ atW h.rho))
def comb (h : Hd) (ks : List (List ByteArray)) : List ByteArray :=
 if h.h.k = 1 then [digs h.h.n] else if h.h.k = 2 then [h.h.name] else [wOpen] ++ (inW h ks ++ [wShut])
mutual
/-- A term's parts: words, or texts of types and effects. -/
def partsT : AT → List ByteArray
 | .node h l => comb h (partsK l)
def partsK : List AT → List (List ByteArray)
 | [] => []
 | t :: ts => partsT t :: partsK ts
end
theorem partsT_eq (t : AT) : partsT t = comb t.h (partsK t.ks) := by cases t; conv => lhs; unfold partsT
                                                                     rfl
theorem partsK_map : ∀ ts : List AT, partsK ts = ts.map partsT
 | [] => by unfold partsK; rfl
 | t :: ts => by unfold partsK; rw [partsK_map ts]; rfl
theorem kw_get {ts : List AT} {i : Nat} (h : i < ts.length) : kw (partsK ts) i = partsT (tget ts i) := by
 unfold kw tget
 rw [partsK_map, List.getD_eq_getElem?_getD, List.getElem?_map, List.getElem?_eq_getElem h, List.getD_eq_getElem?_getD, List.getElem?_eq_getElem h]
 rfl

/-! ### A node that may be -/
theorem node_of {h : Hd} {n : Nat} (hb : nodeB h n = true) : (1 ≤ h.h.k ∧ h.h.k ≤ 18) ∧ Term.kidsN (Aterm.likeK h.h.k) = n := by
 unfold nodeB at hb
 simp only [Bool.and_eq_true] at hb
 have h1 := hb.1.1.1.1.1
 unfold Aterm.headOk Term.nodeB at h1
 rw [Bool.and_eq_true] at h1
 have h2 := of_decide_eq_true h1.1
 have h3 : Term.kidsN (Aterm.likeK h.h.k) = n := h2.1
 refine ⟨?_, h3⟩
 by_cases hk : 1 ≤ h.h.k ∧ h.h.k ≤ 18
 ·exact hk
 ·exfalso
  have : Aterm.likeK h.h.k = h.h.k := by unfold Aterm.likeK; rw [if_neg (by omega), if_neg (by omega)]
  rw [this, Term.kidsN_none (by omega)] at h3
  omega
theorem kid_all {B : Hd → Nat → Bool} {t : AT} (h : allT B t = true) {i : Nat} (hi : i < t.ks.length) : allT B (tget t.ks i) = true := by
 rw [Aterm.allT_eq, Bool.and_eq_true] at h
 exact Aterm.allK_get _ hi h.2
theorem top_all {B : Hd → Nat → Bool} {t : AT} (h : allT B t = true) : B t.h t.ks.length = true := by
 rw [Aterm.allT_eq, Bool.and_eq_true] at h
 exact h.1
theorem wt1 {t : AT} (h : t.ks.length = 1) : wt t = wt (tget t.ks 0) + 1 := by
 rw [Aterm.wt_ks]
 match hk : t.ks, h with
 | [a], _ => rw [Aterm.wts_cons, Aterm.wts_nil]; show _ = wt a + 1; omega
theorem wt2 {t : AT} (h : t.ks.length = 2) : wt t = wt (tget t.ks 0) + wt (tget t.ks 1) + 1 := by
 rw [Aterm.wt_ks]
 match hk : t.ks, h with
 | [a, b], _ => rw [Aterm.wts_cons, Aterm.wts_cons, Aterm.wts_nil]; show _ = wt a + wt b + 1; omega
theorem wt3 {t : AT} (h : t.ks.length = 3) : wt t = wt (tget t.ks 0) + wt (tget t.ks 1) + wt (tget t.ks 2) + 1 := by
 rw [Aterm.wt_ks]
 match hk : t.ks, h with
 | [a, b, c], _ => rw [Aterm.wts_cons, Aterm.wts_cons, Aterm.wts_cons, Aterm.wts_nil]; show _ = wt a + wt b + wt c + 1; omega
theorem nil_of {α : Type} {l : List α} (h : l.length = 0) : l = [] := List.length_eq_zero_iff.1 h
/-- The kinds, with their kids. -/
theorem kinds {t : AT} (h : allT nodeB t = true) :
  ((t.h.h.k = 1 ∨ t.h.h.k = 2 ∨ t.h.h.k = 18) ∧ t.ks.length = 0) ∨ ((t.h.h.k = 4 ∨ t.h.h.k = 5 ∨ t.h.h.k = 6 ∨ t.h.h.k = 7 ∨ t.h.h.k = 11 ∨ t.h.h.k = 15 ∨ t.h.h.k = 17) ∧ t.ks.length = 1) ∨
  ((t.h.h.k = 3 ∨ t.h.h.k = 8 ∨ t.h.h.k = 9 ∨ t.h.h.k = 10 ∨ t.h.h.k = 12 ∨ t.h.h.k = 13 ∨ t.h.h.k = 16) ∧ t.ks.length = 2) ∨ (t.h.h.k = 14 ∧ t.ks.length = 3) := by
 obtain ⟨hk, hn⟩ := node_of (top_all h)
 clear h
 generalize t.ks.length = n at *
 generalize t.h.h.k = k at *
 have hh : k = 1 ∨ k = 2 ∨ k = 3 ∨ k = 4 ∨ k = 5 ∨ k = 6 ∨ k = 7 ∨ k = 8 ∨ k = 9 ∨ k = 10 ∨ k = 11 ∨ k = 12 ∨ k = 13 ∨ k = 14 ∨ k = 15 ∨ k = 16 ∨ k = 17 ∨ k = 18 := by omega
 rcases hh with e | e | e | e | e | e | e | e | e | e | e | e | e | e | e | e | e | e
 all_goals
  subst e
  unfold Aterm.likeK Term.kidsN at hn
  simp at hn
  omega
/-- How many parts there are. -/
theorem parts_len : ∀ m : Nat, ∀ t, wt t ≤ m → allT nodeB t = true → allT (fun h _ => decide (h.rhos.length ≤ 50)) t = true → 1 ≤ (partsT t).length ∧ (partsT t).length ≤ 80 * wt t := by
 intro m
 induction m with
 | zero => intro t h; have := Aterm.wt_pos t; omega
 | succ m ih =>
  intro t h hm hr
  have hr2 : t.h.rhos.length ≤ 50 := of_decide_eq_true (top_all hr)
  have hrw : (rhosW t.h.rhos).length ≤ 52 := by unfold rhosW; simp; omega
  have hp := Aterm.wt_pos t
  rw [partsT_eq]
  unfold comb inW
  rcases kinds hm with ⟨hk, hl⟩ | ⟨hk, hl⟩ | ⟨hk, hl⟩ | ⟨hk, hl⟩
  ·rcases hk with hk | hk | hk
   ·simp [hk]; omega
   ·simp [hk]; omega
   ·simp [hk, atW]; omega
  ·have h0 := ih (tget t.ks 0) (by have := wt1 hl; omega) (kid_all hm (by omega)) (kid_all hr (by omega))
   have hw := wt1 hl
   have hk0 := kw_get (show 0 < t.ks.length by omega)
   rcases hk with hk | hk | hk | hk | hk | hk | hk
   all_goals
    simp [hk, hk0, atW]
    omega
  ·have h0 := ih (tget t.ks 0) (by have := wt2 hl; omega) (kid_all hm (by omega)) (kid_all hr (by omega))
   have h1 := ih (tget t.ks 1) (by have := wt2 hl; omega) (kid_all hm (by omega)) (kid_all hr (by omega))
   have hw := wt2 hl
   have hk0 := kw_get (show 0 < t.ks.length by omega)
   have hk1 := kw_get (show 1 < t.ks.length by omega)
   rcases hk with hk | hk | hk | hk | hk | hk | hk
   all_goals
    simp [hk, hk0, hk1, atW]
    omega
  ·have h0 := ih (tget t.ks 0) (by have := wt3 hl; omega) (kid_all hm (by omega)) (kid_all hr (by omega))
   have h1 := ih (tget t.ks 1) (by have := wt3 hl; omega) (kid_all hm (by omega)) (kid_all hr (by omega))
   have h2 := ih (tget t.ks 2) (by have := wt3 hl; omega) (kid_all hm (by omega)) (kid_all hr (by omega))
   have hw := wt3 hl
   have hk0 := kw_get (show 0 < t.ks.length by omega)
   have hk1 := kw_get (show 1 < t.ks.length by omega)
   have hk2 := kw_get (show 2 < t.ks.length by omega)
   simp [hk, hk0, hk1, hk2]
   omega
/-- What holds of the fields of a small term. -/
theorem few_of {t : AT} (h : allT Aterm.smallB t = true) : allT (fun h _ => decide (h.rhos.length ≤ 50)) t = true :=
 (Aterm.all_imp (fun h n hh => decide_eq_true (Aterm.long_no (by unfold Aterm.smallB at hh; simpa using hh)).1.2.2.2) _).1 t (Nat.le_refl _) h
theorem parts_le {t : AT} (h : allT nodeB t = true) (hs : allT Aterm.smallB t = true) : (partsT t).length ≤ 80 * wt t := (parts_len _ t (Nat.le_refl _) h (few_of hs)).2
end Disp
end Go.Proofs.YtfncpcijfphngaaGreatDoor
