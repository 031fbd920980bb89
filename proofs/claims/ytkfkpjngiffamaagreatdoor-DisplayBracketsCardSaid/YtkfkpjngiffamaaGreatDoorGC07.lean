import Derived.Test.YtkfkpjngiffamaaGreatDoorRows
import Derived.WalkKit
import Derived.Below
import Derived.Deep.Slices
import Derived.Deep.Fields
import Derived.LoopTactic
import Derived.Outline
import Derived.Lib.Hide
import Derived.IntWalk
import Derived.Lib.Join
import Derived.Lib.ItoaLen
import Derived.Test.YtkfkpjngiffamaaGreatDoorGC05
import Derived.Test.YtkfkpjngiffamaaGreatDoorGC06
import Derived.BigQuiet
import Derived.Lib.LaidTab
import Derived.OwnWalk
import Derived.Laws.AppendOwn
import Derived.Laws.AppendOwnNone
import Derived.Laws.OwnMore
import Derived.Maps.AppendAt
namespace Go.Proofs.YtkfkpjngiffamaaGreatDoor
open Go.RowKit Go.ChangeShapes Go.WideShapes Go.Deep
set_option linter.unusedVariables false
namespace Types

structure Hd where
 k : Int
 v : Int
inductive Ty where
 | node : Hd → List Ty → Ty
def Ty.h : Ty → Hd
 | .node h _ => h
def Ty.ks : Ty → List Ty
 | .node _ l => l
mutual
def wt : Ty → Nat
 | .node _ l => wts l + 1
def wts : List Ty → Nat
 | [] => 0
 | t :: ts => wt t + wts ts
end
theorem wt_pos (t : Ty) : 0 < wt t := by cases t; unfold wt; omega
theorem wt_ks (t : Ty) : wt t = wts t.ks + 1 := by cases t; unfold wt; rfl
theorem wts_nil : wts [] = 0 := by unfold wts; rfl
theorem wts_cons (t : Ty) (ts : List Ty) : wts (t :: ts) = wt t + wts ts := by conv => lhs; unfold wts
theorem wts_append : ∀ (ts us : List Ty), wts (ts ++ us) = wts ts + wts us
 | [], us => by rw [wts_nil]; simp
 | t :: ts, us => by rw [List.cons_append, wts_cons, wts_cons, wts_append ts us]; omega
def tget (ts : List Ty) (i : Nat) : Ty := ts.getD i (.node ⟨0, 0⟩ [])
theorem tget_at {ts : List Ty} {i : Nat} (h : i < ts.length) : ts[i]? = some (tget ts i) := by
 unfold tget
 rw [List.getD_eq_getElem?_getD, List.getElem?_eq_getElem h]
 rfl
theorem tget_mem {ts : List Ty} {i : Nat} (h : i < ts.length) : tget ts i ∈ ts := List.mem_of_getElem? (tget_at h)
theorem wts_mem : ∀ {ts : List Ty} {t : Ty}, t ∈ ts → wt t ≤ wts ts
 | t :: ts, u, h => by
  rw [wts_cons]
  rcases List.mem_cons.1 h with rfl | h
  ·omega
  ·have := wts_mem h; omega
theorem wts_get {ts : List Ty} {i : Nat} (h : i < ts.length) : wt (tget ts i) ≤ wts ts := wts_mem (tget_mem h)

def tcells (h : Hd) (p : Option Addr) (l c : Nat) : List Value := [.int .u8 h.k, .int .i64 h.v, .slice p l c]
structure HdOk (h : Hd) : Prop where
 k : 0 ≤ h.k ∧ h.k ≤ 255
 v : -9223372036854775808 ≤ h.v ∧ h.v ≤ 9223372036854775807

inductive Kids (w : World) : Option Addr → List Ty → Prop where
 | nokids (p : Option Addr) : Kids w p []
 | atkids (b o : Nat) (ts : List Ty) (q : Nat → Option Addr) (c : Nat → Nat)
   (hh : ∀ i, i < ts.length → HdOk (tget ts i).h)
   (hc : ∀ i, i < ts.length → ∀ j v, (tcells (tget ts i).h (q i) (tget ts i).ks.length (c i))[j]? = some v → w.cell? ⟨b, o + i * 3 + j, none⟩ = some v)
   (hl : ∀ i, i < ts.length → (tget ts i).ks.length ≤ c i ∧ c i ≤ maxLen)
   (hk : ∀ i, i < ts.length → Kids w (q i) (tget ts i).ks) : Kids w (some ⟨b, o, none⟩) ts

structure TyIs (w : World) (h : Hd) (p : Option Addr) (l c : Nat) (t : Ty) : Prop where
 head : t.h = h
 len : t.ks.length = l
 ok : HdOk h
 cap : l ≤ c ∧ c ≤ maxLen
 kids : Kids w p t.ks

theorem Kids.get {w : World} {p : Option Addr} {ts : List Ty} (h : Kids w p ts) (i : Nat) (hi : i < ts.length) :
  ∃ b o q c, p = some ⟨b, o, none⟩ ∧ TyIs w (tget ts i).h q (tget ts i).ks.length c (tget ts i) ∧
   w.cell? ⟨b, o + i * 3, none⟩ = some (.int .u8 (tget ts i).h.k) ∧ w.cell? ⟨b, o + i * 3 + 1, none⟩ = some (.int .i64 (tget ts i).h.v) ∧ w.cell? ⟨b, o + i * 3 + 2, none⟩ = some (.slice q (tget ts i).ks.length c) := by
 cases h with
 | nokids => simp at hi
 | atkids b o _ q c hh hc hl hk =>
  have hci := hc i hi
  exact ⟨b, o, q i, c i, rfl, ⟨rfl, rfl, hh i hi, hl i hi, hk i hi⟩, hci 0 _ rfl, hci 1 _ rfl, hci 2 _ rfl⟩
theorem Kids.stay {w W : World} {p : Option Addr} {ts : List Ty} (h : Kids w p ts) (hb : Below w.heap.size w W) : Kids W p ts := by
 induction h with
 | nokids p => exact .nokids p
 | atkids b o ts q c hh hc hl hk ih =>
  refine .atkids b o ts q c hh (fun i hi j v hv => ?_) hl (fun i hi => ih i hi)
  have h0 := hc i hi j v hv
  exact (hb.cell (p := ⟨b, o + i * 3 + j, none⟩) (World.block_lt_of_cell? w _ h0)).trans h0
theorem TyIs.below {w W : World} {h : Hd} {p : Option Addr} {l c : Nat} {t : Ty} (k : TyIs w h p l c t) (hb : Below w.heap.size w W) : TyIs W h p l c t := ⟨k.head, k.len, k.ok, k.cap, k.kids.stay hb⟩

theorem list3 {α : Type} {l : List α} (h : l.length = 3) : ∃ a b c, l = [a, b, c] := by
 match l, h with
 | [a, b, c], _ => exact ⟨a, b, c, rfl⟩
section
variable {H : Type} {enc : TypeId × Value → H} {w : World} {base : Nat} {sp : Nat → Bool} {held : Bool}
theorem wf_u8 {n : Int} (h : (Lit.int .u8 n).wf = true) : 0 ≤ n ∧ n ≤ 255 := by
 simp [Lit.wf, IntKind.min, IntKind.max, IntKind.signed, IntKind.bits] at h
 omega
theorem wf_i64 {n : Int} (h : (Lit.int .i64 n).wf = true) : -9223372036854775808 ≤ n ∧ n ≤ 9223372036854775807 := by
 simp [Lit.wf, IntKind.min, IntKind.max, IntKind.signed, IntKind.bits] at h
 omega
end
theorem ret_i64 {a b : Int} (h : a = b) : Ending.returned (.int .i64 a) = .returned (.int .i64 b) := by rw [h]
theorem ret_bool {a b : Bool} (h : a = b) : Ending.returned (.bool a) = .returned (.bool b) := by rw [h]
theorem drop_tget (ts : List Ty) (k : Nat) (h : k < ts.length) : ts.drop k = tget ts k :: ts.drop (k + 1) := by
 rw [List.drop_eq_getElem_cons h]
 have := tget_at h
 rw [List.getElem?_eq_getElem h] at this
 rw [Option.some.inj this]
theorem boxAt {w W : World} {cs : Array Value} {t : TypeId} (hb : Below (w.alloc (.cells cs t)).heap.size (w.alloc (.cells cs t)) W) (j : Nat) {v : Value} (hv : cs[j]? = some v) : W.cell? ⟨w.heap.size, j, none⟩ = some v := by
 have hlt : w.heap.size < (w.alloc (.cells cs t)).heap.size := by simp
 rw [hb.cell (p := ⟨w.heap.size, j, none⟩) hlt, World.cell?_alloc_mark, hv]

theorem take_tget (ts : List Ty) (k : Nat) (h : k < ts.length) : ts.take (k + 1) = ts.take k ++ [tget ts k] := by
 rw [List.take_add_one, tget_at h]; rfl
theorem wts_take_le : ∀ (ts : List Ty) (k : Nat), wts (ts.take k) ≤ wts ts
 | [], k => by simp
 | t :: ts, 0 => by rw [List.take_zero, wts_nil]; omega
 | t :: ts, k + 1 => by rw [List.take_succ_cons, wts_cons, wts_cons]; have := wts_take_le ts k; omega

section
variable {H : Type} {enc : TypeId × Value → H} {w : World} {base : Nat} {sp : Nat → Bool} {held : Bool}
end
end Types
end Go.Proofs.YtkfkpjngiffamaaGreatDoor
namespace Go.Proofs.YtkfkpjngiffamaaGreatDoor
open Go.RowKit
set_option linter.unusedVariables false
namespace Types

mutual
def leftT : Ty → Int → Int
 | .node h l, n => leftK l (n - 1)
def leftK : List Ty → Int → Int
 | [], n => n
 | t :: ts, n => if n < 0 then n else leftK ts (leftT t n)
end
theorem leftT_eq (t : Ty) (n : Int) : leftT t n = leftK t.ks (n - 1) := by cases t; unfold leftT; rfl
theorem leftK_nil (n : Int) : leftK [] n = n := by unfold leftK; rfl
theorem leftK_cons (t : Ty) (ts : List Ty) (n : Int) : leftK (t :: ts) n = if n < 0 then n else leftK ts (leftT t n) := by conv => lhs; unfold leftK
theorem leftK_neg (ts : List Ty) (n : Int) (h : n < 0) : leftK ts n = n := by
 cases ts with
 | nil => exact leftK_nil n
 | cons t ts => rw [leftK_cons, if_pos h]
theorem leftK_step (ts : List Ty) (k : Nat) (n : Int) (h : k < ts.length) (hn : ¬ n < 0) : leftK (ts.drop k) n = leftK (ts.drop (k + 1)) (leftT (tget ts k) n) := by
 rw [drop_tget ts k h, leftK_cons, if_neg hn]
theorem left_range : ∀ m : Nat, (∀ (t : Ty) (n : Int), wt t ≤ m → 0 ≤ n → -1 ≤ leftT t n ∧ leftT t n ≤ n) ∧ (∀ (ts : List Ty) (n : Int), wts ts ≤ m → -1 ≤ n → -1 ≤ leftK ts n ∧ leftK ts n ≤ n) := by
 intro m
 induction m with
 | zero =>
  refine ⟨fun t n h => by have := wt_pos t; omega, fun ts n h hn => ?_⟩
  cases ts with
  | nil => rw [leftK_nil]; omega
  | cons t ts => rw [wts_cons] at h; have := wt_pos t; omega
 | succ m ih =>
  have hT : ∀ (t : Ty) (n : Int), wt t ≤ m + 1 → 0 ≤ n → -1 ≤ leftT t n ∧ leftT t n ≤ n := by
   intro t n h hn
   rw [wt_ks] at h
   rw [leftT_eq]
   have := ih.2 t.ks (n - 1) (by omega) (by omega)
   omega
  refine ⟨hT, ?_⟩
  intro ts
  induction ts with
  | nil => intro n _ hn; rw [leftK_nil]; omega
  | cons t ts ihs =>
   intro n h hn
   rw [wts_cons] at h
   rw [leftK_cons]
   split
   ·omega
   ·rename_i h0
    have h1 := hT t n (by omega) (by omega)
    have h2 := ihs (leftT t n) (by omega) (by omega)
    omega
theorem left_small : ∀ m : Nat, (∀ (t : Ty) (n : Int), wt t ≤ m → 0 ≤ n → 0 ≤ leftT t n → leftT t n = n - wt t) ∧ (∀ (ts : List Ty) (n : Int), wts ts ≤ m → 0 ≤ n → 0 ≤ leftK ts n → leftK ts n = n - wts ts) := by
 intro m
 induction m with
 | zero =>
  refine ⟨fun t n h => by have := wt_pos t; omega, fun ts n h hn _ => ?_⟩
  cases ts with
  | nil => rw [leftK_nil, wts_nil]; omega
  | cons t ts => rw [wts_cons] at h; have := wt_pos t; omega
 | succ m ih =>
  have hT : ∀ (t : Ty) (n : Int), wt t ≤ m + 1 → 0 ≤ n → 0 ≤ leftT t n → leftT t n = n - wt t := by
   intro t n h hn h0
   rw [leftT_eq] at h0 ⊢
   by_cases hn1 : n - 1 < 0
   ·rw [leftK_neg _ _ hn1] at h0; omega
   ·have hk := wt_ks t
    have h1 := ih.2 t.ks (n - 1) (by omega) (by omega) h0
    omega
  refine ⟨hT, ?_⟩
  intro ts
  induction ts with
  | nil => intro n _ hn _; rw [leftK_nil, wts_nil]; omega
  | cons t ts ihs =>
   intro n h hn h0
   rw [wts_cons] at h ⊢
   rw [leftK_cons] at h0 ⊢
   rw [if_neg (by omega)] at h0 ⊢
   by_cases hx : leftT t n < 0
   ·rw [leftK_neg _ _ hx] at h0; omega
   ·have h1 := hT t n (by omega) hn (by omega)
    have h3 := ihs (leftT t n) (by omega) (by omega) h0
    omega
def greatB (t : Ty) : Bool := decide (leftT t 400 < 0)
theorem small_of {t : Ty} (h : greatB t = false) : wt t ≤ 400 := by
 unfold greatB at h
 have h' := of_decide_eq_false h
 have h1 := (left_small (wt t)).1 t 400 (Nat.le_refl _) (by omega) (by omega)
 omega

section
variable (B : Hd → Nat → Bool)
mutual
def allT : Ty → Bool
 | .node h l => B h l.length && allK l
def allK : List Ty → Bool
 | [] => true
 | t :: ts => allT t && allK ts
end
theorem allT_eq (t : Ty) : allT B t = (B t.h t.ks.length && allK B t.ks) := by cases t; conv => lhs; unfold allT
                                                                               rfl
theorem allK_nil : allK B [] = true := by unfold allK; rfl
theorem allK_cons (t : Ty) (ts : List Ty) : allK B (t :: ts) = (allT B t && allK B ts) := by conv => lhs; unfold allK
theorem allK_step (ts : List Ty) (j : Nat) (h : j < ts.length) : allK B (ts.drop j) = (allT B (tget ts j) && allK B (ts.drop (j + 1))) := by
 rw [drop_tget ts j h, allK_cons]
theorem allK_no {ts : List Ty} {j : Nat} (hj : j < ts.length) (h : B (tget ts j).h (tget ts j).ks.length = false) : allK B (ts.drop j) = false := by
 rw [allK_step B ts j hj, allT_eq, h]; rfl
theorem allK_kno {ts : List Ty} {j : Nat} (hj : j < ts.length) (hk : allK B (tget ts j).ks = false) : allK B (ts.drop j) = false := by
 rw [allK_step B ts j hj, allT_eq, hk]; simp
theorem allK_yes {ts : List Ty} {j : Nat} (hj : j < ts.length) (h : B (tget ts j).h (tget ts j).ks.length = true) (hk : allK B (tget ts j).ks = true) : allK B (ts.drop j) = allK B (ts.drop (j + 1)) := by
 rw [allK_step B ts j hj, allT_eq, h, hk]; rfl
theorem allK_get {ts : List Ty} {j : Nat} (hj : j < ts.length) (h : allK B ts = true) : allT B (tget ts j) = true := by
 induction ts generalizing j with
 | nil => simp at hj
 | cons t ts ih =>
  rw [allK_cons, Bool.and_eq_true] at h
  cases j with
  | zero => exact h.1
  | succ j => exact ih (by simpa using hj) h.2
theorem allK_one (t : Ty) : allK B [t] = allT B t := by rw [allK_cons, allK_nil, Bool.and_true]
end
def kidsN (k : Int) : Int := if k = 1 ∨ k = 5 then 0 else if k = 3 then 1 else if k = 2 ∨ k = 4 then 2 else -1
def nodeB (h : Hd) (n : Nat) : Bool := decide ((n : Int) = kidsN h.k ∧ 0 ≤ h.v ∧ (h.v ≤ 0 ∨ h.k = 5))
abbrev mayT : Ty → Bool := allT nodeB
abbrev mayK : List Ty → Bool := allK nodeB
mutual
def sameT : Ty → Ty → Bool
 | .node h l, u => decide (h.k = u.h.k ∧ h.v = u.h.v) && decide (l.length = u.ks.length) && sameK l u.ks
def sameK : List Ty → List Ty → Bool
 | [], _ => true
 | _ :: _, [] => true
 | t :: ts, u :: us => sameT t u && sameK ts us
end
theorem sameT_eq (t u : Ty) : sameT t u = (decide (t.h.k = u.h.k ∧ t.h.v = u.h.v) && decide (t.ks.length = u.ks.length) && sameK t.ks u.ks) := by
 cases t
 conv => lhs; unfold sameT
 rfl
theorem sameK_cons (t u : Ty) (ts us : List Ty) : sameK (t :: ts) (u :: us) = (sameT t u && sameK ts us) := by conv => lhs; unfold sameK
theorem sameK_nil (us : List Ty) : sameK [] us = true := by conv => lhs; unfold sameK
theorem sameK_step (ts us : List Ty) (j : Nat) (h1 : j < ts.length) (h2 : j < us.length) : sameK (ts.drop j) (us.drop j) = (sameT (tget ts j) (tget us j) && sameK (ts.drop (j + 1)) (us.drop (j + 1))) := by
 rw [drop_tget ts j h1, drop_tget us j h2, sameK_cons]
theorem same_eq : ∀ m : Nat, (∀ t u, wt t ≤ m → (sameT t u = true ↔ t = u)) ∧ (∀ ts us : List Ty, wts ts ≤ m → ts.length = us.length → (sameK ts us = true ↔ ts = us)) := by
 intro m
 induction m with
 | zero =>
  refine ⟨fun t u h => by have := wt_pos t; omega, fun ts us h hl => ?_⟩
  cases ts with
  | nil => cases us with
   | nil => rw [sameK_nil]; simp
   | cons u us => simp at hl
  | cons t ts => rw [wts_cons] at h; have := wt_pos t; omega
 | succ m ih =>
  have hT : ∀ t u, wt t ≤ m + 1 → (sameT t u = true ↔ t = u) := by
   intro t u h
   have hk := wt_ks t
   rw [sameT_eq]
   obtain ⟨⟨k, v⟩, l⟩ := t
   obtain ⟨⟨k', v'⟩, l'⟩ := u
   simp only [Ty.h, Ty.ks, Bool.and_eq_true] at hk ⊢
   constructor
   ·rintro ⟨⟨h1, hl⟩, hs⟩
    obtain ⟨rfl, rfl⟩ := of_decide_eq_true h1
    have hl := of_decide_eq_true hl
    rw [((ih.2 l l' (by omega) hl).1 hs)]
   ·intro e
    injection e with e1 e2
    injection e1 with e3 e4
    subst e2 e3 e4
    exact ⟨⟨decide_eq_true ⟨rfl, rfl⟩, decide_eq_true rfl⟩, (ih.2 l l (by omega) rfl).2 rfl⟩
  refine ⟨hT, fun ts => ?_⟩
  induction ts with
  | nil => intro us _ hl; cases us with
   | nil => rw [sameK_nil]; simp
   | cons u us => simp at hl
  | cons t ts ihs =>
   intro us h hl
   rw [wts_cons] at h
   cases us with
   | nil => simp at hl
   | cons u us =>
    rw [sameK_cons, Bool.and_eq_true, hT t u (by omega), ihs us (by omega) (by simpa using hl)]
    simp
theorem same_iff (t u : Ty) : sameT t u = true ↔ t = u := (same_eq (wt t)).1 t u (Nat.le_refl _)
theorem same_self (t : Ty) : sameT t t = true := (same_iff t t).2 rfl
theorem bytes_ext {s t : ByteArray} (h : s.data.toList = t.data.toList) : s = t := by
 cases s; cases t
 simp at h
 simp [h]
def jb (ss : List ByteArray) : ByteArray := ⟨(Lib.join (ss.map (·.data.toList)) [32]).toArray⟩
theorem jb_list (ss : List ByteArray) : (jb ss).data.toList = Lib.join (ss.map (·.data.toList)) [32] := by simp [jb]
theorem jb_one (s : ByteArray) : jb [s] = s := by
 apply bytes_ext
 rw [jb_list]
 simp [Lib.join_one]
def bl (s : ByteArray) : List UInt8 := s.data.toList
theorem bl_append (a b : ByteArray) : bl (a ++ b) = bl a ++ bl b := by unfold bl; rw [ByteArray.data_append, Array.toList_append]
theorem bl_inj {a b : ByteArray} (h : bl a = bl b) : a = b := bytes_ext h
theorem join_app (a b : List (List UInt8)) (ha : a ≠ []) (hb : b ≠ []) : Lib.join (a ++ b) [32] = Lib.join a [32] ++ 32 :: Lib.join b [32] := by
 cases a with
 | nil => exact absurd rfl ha
 | cons x r =>
  cases b with
  | nil => exact absurd rfl hb
  | cons y q =>
   rw [List.cons_append, Lib.join_cons, Lib.join_cons, Lib.join_cons]
   unfold Lib.joinTail
   simp [List.append_assoc]
theorem bl_jb (ss : List ByteArray) : bl (jb ss) = Lib.join (ss.map bl) [32] := jb_list ss
theorem bl_app {a b : List ByteArray} (ha : a ≠ []) (hb : b ≠ []) : bl (jb (a ++ b)) = bl (jb a) ++ 32 :: bl (jb b) := by
 rw [bl_jb, bl_jb, bl_jb, List.map_append, join_app _ _ (by simpa using ha) (by simpa using hb)]
theorem bl_cons {x : ByteArray} {b : List ByteArray} (hb : b ≠ []) : bl (jb (x :: b)) = bl x ++ 32 :: bl (jb b) := by
 have := bl_app (a := [x]) (b := b) (by simp) hb
 rw [jb_one] at this
 exact this
theorem bl_one (x : ByteArray) : bl (jb [x]) = bl x := by rw [jb_one]
def wInt : ByteArray := ⟨#[105, 110, 116]⟩
def wOpen : ByteArray := ⟨#[40]⟩
def wShut : ByteArray := ⟨#[41]⟩
def wStar : ByteArray := ⟨#[42]⟩
def wRef : ByteArray := ⟨#[114, 101, 102]⟩
def wArrow : ByteArray := ⟨#[45, 62]⟩
def digs (n : Int) : ByteArray := ⟨(Lib.itoa n).toArray⟩
def wVar (n : Int) : ByteArray := ⟨#[63]⟩ ++ digs n
def tightW (x : Int × List ByteArray) : List ByteArray := if x.1 = 4 then wOpen :: (x.2 ++ [wShut]) else x.2
def kd (ks : List (Int × List ByteArray)) (i : Nat) : Int × List ByteArray := ks.getD i (1, [])
def comb (h : Hd) (ks : List (Int × List ByteArray)) : List ByteArray :=
 if h.k = 1 then [wInt] else if h.k = 2 then wOpen :: ((kd ks 0).2 ++ (wStar :: ((kd ks 1).2 ++ [wShut])))
 else if h.k = 3 then wRef :: tightW (kd ks 0) else if h.k = 4 then tightW (kd ks 0) ++ (wArrow :: (kd ks 1).2) else [wVar h.v]
mutual
def wordsT : Ty → List ByteArray
 | .node h l => comb h (wordsK l)
def wordsK : List Ty → List (Int × List ByteArray)
 | [] => []
 | t :: ts => (t.h.k, wordsT t) :: wordsK ts
end
theorem wordsT_eq (t : Ty) : wordsT t = comb t.h (wordsK t.ks) := by cases t; conv => lhs; unfold wordsT
                                                                     rfl
theorem wordsK_nil : wordsK [] = [] := by unfold wordsK; rfl
theorem wordsK_cons (t : Ty) (ts : List Ty) : wordsK (t :: ts) = (t.h.k, wordsT t) :: wordsK ts := by conv => lhs; unfold wordsK
theorem wordsK_map : ∀ ts : List Ty, wordsK ts = ts.map (fun t => (t.h.k, wordsT t))
 | [] => wordsK_nil
 | t :: ts => by rw [wordsK_cons, wordsK_map ts]; rfl
theorem kd_get {ts : List Ty} {i : Nat} (h : i < ts.length) : kd (wordsK ts) i = ((tget ts i).h.k, wordsT (tget ts i)) := by
 unfold kd tget
 rw [wordsK_map, List.getD_eq_getElem?_getD, List.getElem?_map, List.getElem?_eq_getElem h, List.getD_eq_getElem?_getD, List.getElem?_eq_getElem h]
 rfl
theorem may_node {t : Ty} (h : mayT t = true) : ((t.h.k = 1 ∨ t.h.k = 5) ∧ t.ks.length = 0 ∨ t.h.k = 3 ∧ t.ks.length = 1 ∨ (t.h.k = 2 ∨ t.h.k = 4) ∧ t.ks.length = 2) ∧ 0 ≤ t.h.v ∧ (t.h.v ≤ 0 ∨ t.h.k = 5) ∧ mayK t.ks = true := by
 change allT nodeB t = true at h
 rw [allT_eq, Bool.and_eq_true] at h
 obtain ⟨h1, h2⟩ := h
 unfold nodeB kidsN at h1
 obtain ⟨h3, h4, h5⟩ := of_decide_eq_true h1
 refine ⟨?_, h4, h5, h2⟩
 split at h3
 ·left; omega
 ·split at h3
  ·right; left; omega
  ·split at h3
   ·right; right; omega
   ·omega
theorem may_kid {t : Ty} (h : mayT t = true) {i : Nat} (hi : i < t.ks.length) : mayT (tget t.ks i) = true := allK_get nodeB hi (may_node h).2.2.2
theorem wt2 {t : Ty} (h : t.ks.length = 2) : wt t = wt (tget t.ks 0) + wt (tget t.ks 1) + 1 := by
 rw [wt_ks]
 match hk : t.ks, h with
 | [a, b], _ => rw [wts_cons, wts_cons, wts_nil]; show _ = wt a + wt b + 1; omega
theorem wt1 {t : Ty} (h : t.ks.length = 1) : wt t = wt (tget t.ks 0) + 1 := by
 rw [wt_ks]
 match hk : t.ks, h with
 | [a], _ => rw [wts_cons, wts_nil]; show _ = wt a + 1; omega
theorem tightW_len (x : Int × List ByteArray) : x.2.length ≤ (tightW x).length ∧ (tightW x).length ≤ x.2.length + 2 := by
 unfold tightW; split <;> simp <;> omega
theorem words_pos : ∀ m : Nat, ∀ t, wt t ≤ m → mayT t = true → 1 ≤ (wordsT t).length ∧ (wordsT t).length ≤ 3 * wt t := by
 intro m
 induction m with
 | zero => intro t h; have := wt_pos t; omega
 | succ m ih =>
  intro t h hm
  obtain ⟨hk, -, -, -⟩ := may_node hm
  rw [wordsT_eq]
  unfold comb
  have hp := wt_pos t
  rcases hk with ⟨hk, hl⟩ | ⟨hk, hl⟩ | ⟨hk, hl⟩
  ·rcases hk with hk | hk <;> simp [hk] <;> omega
  ·have h0 := ih (tget t.ks 0) (by have := wt1 hl; omega) (may_kid hm (by omega))
   have hw := wt1 hl
   have hq := tightW_len ((tget t.ks 0).h.k, wordsT (tget t.ks 0))
   simp only [hk, kd_get (show 0 < t.ks.length by omega)]
   simp
   simp at hq
   omega
  ·have h0 := ih (tget t.ks 0) (by have := wt2 hl; omega) (may_kid hm (by omega))
   have h1 := ih (tget t.ks 1) (by have := wt2 hl; omega) (may_kid hm (by omega))
   have hw := wt2 hl
   have hq := tightW_len ((tget t.ks 0).h.k, wordsT (tget t.ks 0))
   rcases hk with hk | hk
   all_goals
    simp only [hk, kd_get (show 0 < t.ks.length by omega), kd_get (show 1 < t.ks.length by omega)]
    simp
    simp at hq
    omega
end Types
end Go.Proofs.YtkfkpjngiffamaaGreatDoor
namespace Go.Proofs.YtkfkpjngiffamaaGreatDoor
open Go.RowKit
set_option linter.unusedVariables false
set_option linter.unusedSimpArgs false
namespace Rt
open Effect (At AtOk AtsAt Rd ofA greatB)

mutual
def leftT : RT → Int → Int
 | .node h l, n => if greatB h.e = true then -1 else leftK l (n - 1)
def leftK : List RT → Int → Int
 | [], n => n
 | t :: ts, n => if n < 0 then n else leftK ts (leftT t n)
end
theorem leftT_eq (t : RT) (n : Int) : leftT t n = if greatB t.h.e = true then -1 else leftK t.ks (n - 1) := by cases t; unfold leftT; rfl
theorem leftK_nil (n : Int) : leftK [] n = n := by unfold leftK; rfl
theorem leftK_cons (t : RT) (ts : List RT) (n : Int) : leftK (t :: ts) n = if n < 0 then n else leftK ts (leftT t n) := by conv => lhs; unfold leftK
theorem leftK_neg (ts : List RT) (n : Int) (h : n < 0) : leftK ts n = n := by
 cases ts with
 | nil => exact leftK_nil n
 | cons t ts => rw [leftK_cons, if_pos h]
theorem leftK_step (ts : List RT) (k : Nat) (n : Int) (h : k < ts.length) (hn : ¬ n < 0) : leftK (ts.drop k) n = leftK (ts.drop (k + 1)) (leftT (tget ts k) n) := by
 rw [drop_tget ts k h, leftK_cons, if_neg hn]
theorem left_range : ∀ m : Nat, (∀ (t : RT) (n : Int), wt t ≤ m → 0 ≤ n → -1 ≤ leftT t n ∧ leftT t n ≤ n) ∧ (∀ (ts : List RT) (n : Int), wts ts ≤ m → -1 ≤ n → -1 ≤ leftK ts n ∧ leftK ts n ≤ n) := by
 intro m
 induction m with
 | zero =>
  refine ⟨fun t n h => by have := wt_pos t; omega, fun ts n h hn => ?_⟩
  cases ts with
  | nil => rw [leftK_nil]; omega
  | cons t ts => rw [wts_cons] at h; have := wt_pos t; omega
 | succ m ih =>
  have hT : ∀ (t : RT) (n : Int), wt t ≤ m + 1 → 0 ≤ n → -1 ≤ leftT t n ∧ leftT t n ≤ n := by
   intro t n h hn
   rw [wt_ks] at h
   rw [leftT_eq]
   split
   ·omega
   ·have := ih.2 t.ks (n - 1) (by omega) (by omega)
    omega
  refine ⟨hT, ?_⟩
  intro ts
  induction ts with
  | nil => intro n _ hn; rw [leftK_nil]; omega
  | cons t ts ihs =>
   intro n h hn
   rw [wts_cons] at h
   rw [leftK_cons]
   split
   ·omega
   ·rename_i h0
    have h1 := hT t n (by omega) (by omega)
    have h2 := ihs (leftT t n) (by omega) (by omega)
    omega

section
variable (B : Hd → Nat → Bool)
mutual
def allT : RT → Bool
 | .node h l => B h l.length && allK l
def allK : List RT → Bool
 | [] => true
 | t :: ts => allT t && allK ts
end
theorem allT_eq (t : RT) : allT B t = (B t.h t.ks.length && allK B t.ks) := by cases t; conv => lhs; unfold allT
                                                                               rfl
theorem allK_nil : allK B [] = true := by unfold allK; rfl
theorem allK_cons (t : RT) (ts : List RT) : allK B (t :: ts) = (allT B t && allK B ts) := by conv => lhs; unfold allK
theorem allK_step (ts : List RT) (j : Nat) (h : j < ts.length) : allK B (ts.drop j) = (allT B (tget ts j) && allK B (ts.drop (j + 1))) := by
 rw [drop_tget ts j h, allK_cons]
theorem allK_no {ts : List RT} {j : Nat} (hj : j < ts.length) (h : B (tget ts j).h (tget ts j).ks.length = false) : allK B (ts.drop j) = false := by
 rw [allK_step B ts j hj, allT_eq, h]; rfl
theorem allK_kno {ts : List RT} {j : Nat} (hj : j < ts.length) (hk : allK B (tget ts j).ks = false) : allK B (ts.drop j) = false := by
 rw [allK_step B ts j hj, allT_eq, hk]; simp
theorem allK_yes {ts : List RT} {j : Nat} (hj : j < ts.length) (h : B (tget ts j).h (tget ts j).ks.length = true) (hk : allK B (tget ts j).ks = true) : allK B (ts.drop j) = allK B (ts.drop (j + 1)) := by
 rw [allK_step B ts j hj, allT_eq, h, hk]; rfl
theorem allK_get {ts : List RT} {j : Nat} (hj : j < ts.length) (h : allK B ts = true) : allT B (tget ts j) = true := by
 induction ts generalizing j with
 | nil => simp at hj
 | cons t ts ih =>
  rw [allK_cons, Bool.and_eq_true] at h
  cases j with
  | zero => exact h.1
  | succ j => exact ih (by simpa using hj) h.2
theorem allK_one (t : RT) : allK B [t] = allT B t := by rw [allK_cons, allK_nil, Bool.and_true]
end
def smallB (h : Hd) (_ : Nat) : Bool := !greatB h.e
theorem left_small : ∀ m : Nat, (∀ (t : RT) (n : Int), wt t ≤ m → 0 ≤ n → 0 ≤ leftT t n → leftT t n = n - wt t ∧ allT smallB t = true) ∧ (∀ (ts : List RT) (n : Int), wts ts ≤ m → 0 ≤ n → 0 ≤ leftK ts n → leftK ts n = n - wts ts ∧ allK smallB ts = true) := by
 intro m
 induction m with
 | zero =>
  refine ⟨fun t n h => by have := wt_pos t; omega, fun ts n h hn _ => ?_⟩
  cases ts with
  | nil => rw [leftK_nil, wts_nil, allK_nil]; exact ⟨by omega, rfl⟩
  | cons t ts => rw [wts_cons] at h; have := wt_pos t; omega
 | succ m ih =>
  have hT : ∀ (t : RT) (n : Int), wt t ≤ m + 1 → 0 ≤ n → 0 ≤ leftT t n → leftT t n = n - wt t ∧ allT smallB t = true := by
   intro t n h hn h0
   rw [leftT_eq] at h0 ⊢
   by_cases hg : greatB t.h.e = true
   ·rw [if_pos hg] at h0; omega
   rw [if_neg hg] at h0 ⊢
   by_cases hn1 : n - 1 < 0
   ·rw [leftK_neg _ _ hn1] at h0; omega
   ·have hk := wt_ks t
    have h1 := ih.2 t.ks (n - 1) (by omega) (by omega) h0
    refine ⟨by omega, ?_⟩
    rw [allT_eq, h1.2]
    unfold smallB
    simp at hg
    rw [hg]; rfl
  refine ⟨hT, ?_⟩
  intro ts
  induction ts with
  | nil => intro n _ hn _; rw [leftK_nil, wts_nil, allK_nil]; exact ⟨by omega, rfl⟩
  | cons t ts ihs =>
   intro n h hn h0
   rw [wts_cons] at h ⊢
   rw [leftK_cons] at h0 ⊢
   rw [if_neg (by omega)] at h0 ⊢
   by_cases hx : leftT t n < 0
   ·rw [leftK_neg _ _ hx] at h0; omega
   ·have h1 := hT t n (by omega) hn (by omega)
    have h3 := ihs (leftT t n) (by omega) (by omega) h0
    refine ⟨by omega, ?_⟩
    rw [allK_cons, h1.2, h3.2]; rfl
def greatT (t : RT) : Bool := decide (leftT t 100 < 0)
theorem small_of {t : RT} (h : greatT t = false) : wt t ≤ 100 ∧ allT smallB t = true := by
 unfold greatT at h
 have h' := of_decide_eq_false h
 have h1 := (left_small (wt t)).1 t 100 (Nat.le_refl _) (by omega) (by omega)
 exact ⟨by omega, h1.2⟩
def effB (n : Nat) (h : Hd) (_ : Nat) : Bool := decide (h.e.length ≤ n) && h.e.all fun x => decide (x.x.size ≤ n)
theorem eff_iff {n : Nat} {h : Hd} {l : Nat} : effB n h l = true ↔ h.e.length ≤ n ∧ ∀ x ∈ h.e, x.x.size ≤ n := by
 unfold effB
 rw [Bool.and_eq_true, decide_eq_true_iff, List.all_eq_true]
 simp
theorem all_imp {A B : Hd → Nat → Bool} (hAB : ∀ h n, A h n = true → B h n = true) : ∀ m : Nat, (∀ t, wt t ≤ m → allT A t = true → allT B t = true) ∧ (∀ ts, wts ts ≤ m → allK A ts = true → allK B ts = true) := by
 intro m
 induction m with
 | zero =>
  refine ⟨fun t h => by have := wt_pos t; omega, fun ts h _ => ?_⟩
  cases ts with
  | nil => exact allK_nil _
  | cons t ts => rw [wts_cons] at h; have := wt_pos t; omega
 | succ m ih =>
  have hT : ∀ t, wt t ≤ m + 1 → allT A t = true → allT B t = true := by
   intro t h ha
   have hk := wt_ks t
   rw [allT_eq, Bool.and_eq_true] at ha ⊢
   exact ⟨hAB _ _ ha.1, ih.2 t.ks (by omega) ha.2⟩
  refine ⟨hT, fun ts => ?_⟩
  induction ts with
  | nil => intro _ _; exact allK_nil _
  | cons t ts ihs =>
   intro h ha
   rw [wts_cons] at h
   rw [allK_cons, Bool.and_eq_true] at ha ⊢
   exact ⟨hT t (by omega) ha.1, ihs (by omega) ha.2⟩
theorem small_eff {t : RT} (h : greatT t = false) : wt t ≤ 100 ∧ allT (effB 100) t = true :=
 ⟨(small_of h).1, (all_imp (fun h n hh => eff_iff.2 (Effect.great_no (by unfold smallB at hh; simpa using hh))) _).1 t (Nat.le_refl _) (small_of h).2⟩

def kidsN (k : Int) : Int := if k = 1 then 0 else if k = 3 then 1 else if k = 2 ∨ k = 4 then 2 else -1
def nodeB (h : Hd) (n : Nat) : Bool := decide ((n : Int) = kidsN h.k ∧ 0 ≤ h.r ∧ (h.k = 1 → h.r ≤ 0) ∧ (h.k ≠ 4 → h.e = []) ∧ h.e = ofA h.e)
abbrev mayT : RT → Bool := allT nodeB
abbrev mayK : List RT → Bool := allK nodeB
theorem mayT_eq (t : RT) : mayT t = (nodeB t.h t.ks.length && mayK t.ks) := allT_eq _ t
theorem mayK_nil : mayK [] = true := allK_nil _
theorem mayK_step (ts : List RT) (j : Nat) (h : j < ts.length) : mayK (ts.drop j) = (mayT (tget ts j) && mayK (ts.drop (j + 1))) := allK_step _ ts j h
theorem may_node {t : RT} (h : mayT t = true) : (t.h.k = 1 ∧ t.ks.length = 0 ∧ t.h.r = 0 ∨ t.h.k = 3 ∧ t.ks.length = 1 ∨ (t.h.k = 2 ∨ t.h.k = 4) ∧ t.ks.length = 2) ∧ 0 ≤ t.h.r ∧ (t.h.k ≠ 4 → t.h.e = []) ∧ t.h.e = ofA t.h.e ∧ mayK t.ks = true := by
 change allT nodeB t = true at h
 rw [allT_eq, Bool.and_eq_true] at h
 obtain ⟨h1, h2⟩ := h
 unfold nodeB kidsN at h1
 obtain ⟨h3, h4, h5, h6, h7⟩ := of_decide_eq_true h1
 refine ⟨?_, h4, h6, h7, h2⟩
 split at h3
 ·rename_i hk; left; have := h5 hk; omega
 ·split at h3
  ·right; left; omega
  ·split at h3
   ·right; right; omega
   ·omega
theorem may_kid {t : RT} (h : mayT t = true) {i : Nat} (hi : i < t.ks.length) : mayT (tget t.ks i) = true := allK_get nodeB hi (may_node h).2.2.2.2
theorem wt2 {t : RT} (h : t.ks.length = 2) : wt t = wt (tget t.ks 0) + wt (tget t.ks 1) + 1 := by
 rw [wt_ks]
 match hk : t.ks, h with
 | [a, b], _ => rw [wts_cons, wts_cons, wts_nil]; show _ = wt a + wt b + 1; omega
theorem wt1 {t : RT} (h : t.ks.length = 1) : wt t = wt (tget t.ks 0) + 1 := by
 rw [wt_ks]
 match hk : t.ks, h with
 | [a], _ => rw [wts_cons, wts_nil]; show _ = wt a + 1; omega

mutual
def sameT : RT → RT → Bool
 | .node h l, u => decide (h.k = u.h.k) && decide (h.r = u.h.r) && decide (ofA h.e = ofA u.h.e) && decide (l.length = u.ks.length) && sameK l u.ks
def sameK : List RT → List RT → Bool
 | [], _ => true
 | _ :: _, [] => true
 | t :: ts, u :: us => sameT t u && sameK ts us
end
theorem sameT_eq (t u : RT) : sameT t u = (decide (t.h.k = u.h.k) && decide (t.h.r = u.h.r) && decide (ofA t.h.e = ofA u.h.e) && decide (t.ks.length = u.ks.length) && sameK t.ks u.ks) := by
 cases t
 conv => lhs; unfold sameT
 rfl
theorem sameK_cons (t u : RT) (ts us : List RT) : sameK (t :: ts) (u :: us) = (sameT t u && sameK ts us) := by conv => lhs; unfold sameK
theorem sameK_nil (us : List RT) : sameK [] us = true := by conv => lhs; unfold sameK
theorem sameK_step (ts us : List RT) (j : Nat) (h1 : j < ts.length) (h2 : j < us.length) : sameK (ts.drop j) (us.drop j) = (sameT (tget ts j) (tget us j) && sameK (ts.drop (j + 1)) (us.drop (j + 1))) := by
 rw [drop_tget ts j h1, drop_tget us j h2, sameK_cons]
theorem same_self_aux : ∀ m : Nat, (∀ t, wt t ≤ m → sameT t t = true) ∧ (∀ ts : List RT, wts ts ≤ m → sameK ts ts = true) := by
 intro m
 induction m with
 | zero =>
  refine ⟨fun t h => by have := wt_pos t; omega, fun ts h => ?_⟩
  cases ts with
  | nil => exact sameK_nil _
  | cons t ts => rw [wts_cons] at h; have := wt_pos t; omega
 | succ m ih =>
  have hT : ∀ t, wt t ≤ m + 1 → sameT t t = true := by
   intro t h
   have hk := wt_ks t
   rw [sameT_eq, ih.2 t.ks (by omega)]
   simp
  refine ⟨hT, fun ts => ?_⟩
  induction ts with
  | nil => intro _; exact sameK_nil _
  | cons t ts ihs =>
   intro h
   rw [wts_cons] at h
   rw [sameK_cons, hT t (by omega), ihs (by omega)]; rfl
theorem same_self (t : RT) : sameT t t = true := (same_self_aux (wt t)).1 t (Nat.le_refl _)

end Rt
end Go.Proofs.YtkfkpjngiffamaaGreatDoor
namespace Go.Proofs.YtkfkpjngiffamaaGreatDoor
open Go.RowKit
set_option linter.unusedVariables false
set_option linter.unusedSimpArgs false
namespace Aterm
open Effect (At AtOk AtsAt Rd RdI)

def longB (h : Hd) : Bool := decide (100 < h.h.name.size ∨ 100 < h.h.arg.size ∨ 100 < h.h.exn.size ∨ 50 < h.rhos.length) || Effect.greatB h.e || Rt.greatT h.ty || Rt.greatT h.re
theorem long_no {h : Hd} (hl : longB h = false) : (h.h.name.size ≤ 100 ∧ h.h.arg.size ≤ 100 ∧ h.h.exn.size ≤ 100 ∧ h.rhos.length ≤ 50) ∧ Effect.greatB h.e = false ∧ Rt.greatT h.ty = false ∧ Rt.greatT h.re = false := by
 unfold longB at hl
 simp only [Bool.or_eq_false_iff, decide_eq_false_iff_not] at hl
 exact ⟨by omega, hl.1.1.2, hl.1.2, hl.2⟩
mutual
def leftT : AT → Int → Int
 | .node h l, n => if longB h = true then -1 else leftK l (n - 1)
def leftK : List AT → Int → Int
 | [], n => n
 | t :: ts, n => if n < 0 then n else leftK ts (leftT t n)
end
theorem leftT_eq (t : AT) (n : Int) : leftT t n = if longB t.h = true then -1 else leftK t.ks (n - 1) := by cases t; unfold leftT; rfl
theorem leftK_nil (n : Int) : leftK [] n = n := by unfold leftK; rfl
theorem leftK_cons (t : AT) (ts : List AT) (n : Int) : leftK (t :: ts) n = if n < 0 then n else leftK ts (leftT t n) := by conv => lhs; unfold leftK
theorem leftK_neg (ts : List AT) (n : Int) (h : n < 0) : leftK ts n = n := by
 cases ts with
 | nil => exact leftK_nil n
 | cons t ts => rw [leftK_cons, if_pos h]
theorem leftK_step (ts : List AT) (k : Nat) (n : Int) (h : k < ts.length) (hn : ¬ n < 0) : leftK (ts.drop k) n = leftK (ts.drop (k + 1)) (leftT (tget ts k) n) := by
 rw [drop_tget ts k h, leftK_cons, if_neg hn]
theorem left_range : ∀ m : Nat, (∀ (t : AT) (n : Int), wt t ≤ m → 0 ≤ n → -1 ≤ leftT t n ∧ leftT t n ≤ n) ∧ (∀ (ts : List AT) (n : Int), wts ts ≤ m → -1 ≤ n → -1 ≤ leftK ts n ∧ leftK ts n ≤ n) := by
 intro m
 induction m with
 | zero =>
  refine ⟨fun t n h => by have := wt_pos t; omega, fun ts n h hn => ?_⟩
  cases ts with
  | nil => rw [leftK_nil]; omega
  | cons t ts => rw [wts_cons] at h; have := wt_pos t; omega
 | succ m ih =>
  have hT : ∀ (t : AT) (n : Int), wt t ≤ m + 1 → 0 ≤ n → -1 ≤ leftT t n ∧ leftT t n ≤ n := by
   intro t n h hn
   rw [wt_ks] at h
   rw [leftT_eq]
   split
   ·omega
   ·have := ih.2 t.ks (n - 1) (by omega) (by omega)
    omega
  refine ⟨hT, ?_⟩
  intro ts
  induction ts with
  | nil => intro n _ hn; rw [leftK_nil]; omega
  | cons t ts ihs =>
   intro n h hn
   rw [wts_cons] at h
   rw [leftK_cons]
   split
   ·omega
   ·rename_i h0
    have h1 := hT t n (by omega) (by omega)
    have h2 := ihs (leftT t n) (by omega) (by omega)
    omega

section
variable (B : Hd → Nat → Bool)
mutual
def allT : AT → Bool
 | .node h l => B h l.length && allK l
def allK : List AT → Bool
 | [] => true
 | t :: ts => allT t && allK ts
end
theorem allT_eq (t : AT) : allT B t = (B t.h t.ks.length && allK B t.ks) := by cases t; conv => lhs; unfold allT
                                                                               rfl
theorem allK_nil : allK B [] = true := by unfold allK; rfl
theorem allK_cons (t : AT) (ts : List AT) : allK B (t :: ts) = (allT B t && allK B ts) := by conv => lhs; unfold allK
theorem allK_step (ts : List AT) (j : Nat) (h : j < ts.length) : allK B (ts.drop j) = (allT B (tget ts j) && allK B (ts.drop (j + 1))) := by
 rw [drop_tget ts j h, allK_cons]
theorem allK_no {ts : List AT} {j : Nat} (hj : j < ts.length) (h : B (tget ts j).h (tget ts j).ks.length = false) : allK B (ts.drop j) = false := by
 rw [allK_step B ts j hj, allT_eq, h]; rfl
theorem allK_kno {ts : List AT} {j : Nat} (hj : j < ts.length) (hk : allK B (tget ts j).ks = false) : allK B (ts.drop j) = false := by
 rw [allK_step B ts j hj, allT_eq, hk]; simp
theorem allK_yes {ts : List AT} {j : Nat} (hj : j < ts.length) (h : B (tget ts j).h (tget ts j).ks.length = true) (hk : allK B (tget ts j).ks = true) : allK B (ts.drop j) = allK B (ts.drop (j + 1)) := by
 rw [allK_step B ts j hj, allT_eq, h, hk]; rfl
theorem allK_get {ts : List AT} {j : Nat} (hj : j < ts.length) (h : allK B ts = true) : allT B (tget ts j) = true := by
 induction ts generalizing j with
 | nil => simp at hj
 | cons t ts ih =>
  rw [allK_cons, Bool.and_eq_true] at h
  cases j with
  | zero => exact h.1
  | succ j => exact ih (by simpa using hj) h.2
theorem allK_one (t : AT) : allK B [t] = allT B t := by rw [allK_cons, allK_nil, Bool.and_true]
end
def smallB (h : Hd) (_ : Nat) : Bool := !longB h
theorem left_small : ∀ m : Nat, (∀ (t : AT) (n : Int), wt t ≤ m → 0 ≤ n → 0 ≤ leftT t n → leftT t n = n - wt t ∧ allT smallB t = true) ∧ (∀ (ts : List AT) (n : Int), wts ts ≤ m → 0 ≤ n → 0 ≤ leftK ts n → leftK ts n = n - wts ts ∧ allK smallB ts = true) := by
 intro m
 induction m with
 | zero =>
  refine ⟨fun t n h => by have := wt_pos t; omega, fun ts n h hn _ => ?_⟩
  cases ts with
  | nil => rw [leftK_nil, wts_nil, allK_nil]; exact ⟨by omega, rfl⟩
  | cons t ts => rw [wts_cons] at h; have := wt_pos t; omega
 | succ m ih =>
  have hT : ∀ (t : AT) (n : Int), wt t ≤ m + 1 → 0 ≤ n → 0 ≤ leftT t n → leftT t n = n - wt t ∧ allT smallB t = true := by
   intro t n h hn h0
   rw [leftT_eq] at h0 ⊢
   by_cases hg : longB t.h = true
   ·rw [if_pos hg] at h0; omega
   rw [if_neg hg] at h0 ⊢
   by_cases hn1 : n - 1 < 0
   ·rw [leftK_neg _ _ hn1] at h0; omega
   ·have hk := wt_ks t
    have h1 := ih.2 t.ks (n - 1) (by omega) (by omega) h0
    refine ⟨by omega, ?_⟩
    rw [allT_eq, h1.2]
    unfold smallB
    simp at hg
    rw [hg]; rfl
  refine ⟨hT, ?_⟩
  intro ts
  induction ts with
  | nil => intro n _ hn _; rw [leftK_nil, wts_nil, allK_nil]; exact ⟨by omega, rfl⟩
  | cons t ts ihs =>
   intro n h hn h0
   rw [wts_cons] at h ⊢
   rw [leftK_cons] at h0 ⊢
   rw [if_neg (by omega)] at h0 ⊢
   by_cases hx : leftT t n < 0
   ·rw [leftK_neg _ _ hx] at h0; omega
   ·have h1 := hT t n (by omega) hn (by omega)
    have h3 := ihs (leftT t n) (by omega) (by omega) h0
    refine ⟨by omega, ?_⟩
    rw [allK_cons, h1.2, h3.2]; rfl
def greatT (t : AT) : Bool := decide (leftT t 400 < 0)
theorem small_of {t : AT} (h : greatT t = false) : wt t ≤ 400 ∧ allT smallB t = true := by
 unfold greatT at h
 have h' := of_decide_eq_false h
 have h1 := (left_small (wt t)).1 t 400 (Nat.le_refl _) (by omega) (by omega)
 exact ⟨by omega, h1.2⟩
theorem all_imp {A B : Hd → Nat → Bool} (hAB : ∀ h n, A h n = true → B h n = true) : ∀ m : Nat, (∀ t, wt t ≤ m → allT A t = true → allT B t = true) ∧ (∀ ts, wts ts ≤ m → allK A ts = true → allK B ts = true) := by
 intro m
 induction m with
 | zero =>
  refine ⟨fun t h => by have := wt_pos t; omega, fun ts h _ => ?_⟩
  cases ts with
  | nil => exact allK_nil _
  | cons t ts => rw [wts_cons] at h; have := wt_pos t; omega
 | succ m ih =>
  have hT : ∀ t, wt t ≤ m + 1 → allT A t = true → allT B t = true := by
   intro t h ha
   have hk := wt_ks t
   rw [allT_eq, Bool.and_eq_true] at ha ⊢
   exact ⟨hAB _ _ ha.1, ih.2 t.ks (by omega) ha.2⟩
  refine ⟨hT, fun ts => ?_⟩
  induction ts with
  | nil => intro _ _; exact allK_nil _
  | cons t ts ihs =>
   intro h ha
   rw [wts_cons] at h
   rw [allK_cons, Bool.and_eq_true] at ha ⊢
   exact ⟨hT t (by omega) ha.1, ihs (by omega) ha.2⟩

mutual
def flatT : AT → List AT
 | .node h l => .node h l :: flatK l
def flatK : List AT → List AT
 | [] => []
 | t :: ts => flatT t ++ flatK ts
end
theorem flatT_eq (t : AT) : flatT t = t :: flatK t.ks := by cases t; unfold flatT; rfl
theorem flatK_nil : flatK [] = [] := by unfold flatK; rfl
theorem flatK_cons (t : AT) (ts : List AT) : flatK (t :: ts) = flatT t ++ flatK ts := by conv => lhs; unfold flatK
theorem flatK_append : ∀ ts us : List AT, flatK (ts ++ us) = flatK ts ++ flatK us
 | [], us => by rw [flatK_nil]; rfl
 | t :: ts, us => by rw [List.cons_append, flatK_cons, flatK_cons, flatK_append ts us, List.append_assoc]
theorem flat_len : ∀ m : Nat, (∀ t, wt t ≤ m → (flatT t).length = wt t) ∧ (∀ ts, wts ts ≤ m → (flatK ts).length = wts ts) := by
 intro m
 induction m with
 | zero =>
  refine ⟨fun t h => by have := wt_pos t; omega, fun ts h => ?_⟩
  cases ts with
  | nil => rw [flatK_nil, wts_nil]; rfl
  | cons t ts => rw [wts_cons] at h; have := wt_pos t; omega
 | succ m ih =>
  have hT : ∀ t, wt t ≤ m + 1 → (flatT t).length = wt t := by
   intro t h
   have hk := wt_ks t
   rw [flatT_eq, List.length_cons, ih.2 t.ks (by omega)]
   omega
  refine ⟨hT, fun ts => ?_⟩
  induction ts with
  | nil => intro _; rw [flatK_nil, wts_nil]; rfl
  | cons t ts ihs =>
   intro h
   rw [wts_cons] at h ⊢
   rw [flatK_cons, List.length_append, hT t (by omega), ihs (by omega)]
theorem flatT_len (t : AT) : (flatT t).length = wt t := (flat_len (wt t)).1 t (Nat.le_refl _)
theorem flatK_take (ts : List AT) (k : Nat) (h : k < ts.length) : flatK (ts.take (k + 1)) = flatK (ts.take k) ++ flatT (tget ts k) := by
 rw [take_tget ts k h, flatK_append, flatK_cons, flatK_nil, List.append_nil]

def ownH (h : Hd) : List Int := if h.h.k = 17 then [h.rho] else if h.h.k = 13 then h.rhos else []
def metO : List Int → List Int → Bool
 | _, [] => false
 | met, x :: xs => met.contains x || metO (met ++ [x]) xs
def apartL : List AT → List Int → Option Int
 | [], _ => none
 | t :: ts, met => if metO met (ownH t.h) = true then some t.h.h.pl else apartL ts (met ++ ownH t.h)
def apartT (t : AT) : Option Int := apartL (flatT t) []
def sameH (a b : Hd) : Bool := decide (a.h.k = b.h.k ∧ a.h.op = b.h.op ∧ a.h.pl = b.h.pl ∧ a.h.n = b.h.n ∧ a.h.name = b.h.name ∧ a.h.arg = b.h.arg ∧ a.h.exn = b.h.exn) && decide (a.rho = b.rho) && decide (a.rhos = b.rhos) && decide (Effect.ofA a.e = Effect.ofA b.e) && Rt.sameT a.ty b.ty && Rt.sameT a.re b.re
mutual
def sameT : AT → AT → Bool
 | .node h l, u => sameH h u.h && decide (l.length = u.ks.length) && sameK l u.ks
def sameK : List AT → List AT → Bool
 | [], _ => true
 | _ :: _, [] => true
 | t :: ts, u :: us => sameT t u && sameK ts us
end
theorem sameT_eq (t u : AT) : sameT t u = (sameH t.h u.h && decide (t.ks.length = u.ks.length) && sameK t.ks u.ks) := by
 cases t
 conv => lhs; unfold sameT
 rfl
theorem sameK_cons (t u : AT) (ts us : List AT) : sameK (t :: ts) (u :: us) = (sameT t u && sameK ts us) := by conv => lhs; unfold sameK
theorem sameK_nil (us : List AT) : sameK [] us = true := by conv => lhs; unfold sameK
end Aterm
end Go.Proofs.YtkfkpjngiffamaaGreatDoor

namespace Go.Proofs.YtkfkpjngiffamaaGreatDoor
open Go.RowKit
set_option linter.unusedVariables false
namespace Types

def Flat (w : World) : List Value → List Ty → Prop
 | xs, [] => xs = []
 | xs, t :: ts => ∃ q c ys, xs = tcells t.h q t.ks.length c ++ ys ∧ TyIs w t.h q t.ks.length c t ∧ Flat w ys ts
theorem Flat.append {w : World} : ∀ {ts us : List Ty} {xs ys : List Value}, Flat w xs ts → Flat w ys us → Flat w (xs ++ ys) (ts ++ us)
 | [], us, xs, ys, h, k => by
  have : xs = [] := h
  subst this
  exact k
 | t :: ts, us, xs, ys, ⟨q, c, zs, he, hT, h⟩, k => ⟨q, c, zs ++ ys, by rw [he, List.append_assoc], hT, h.append k⟩
theorem Flat.len {w : World} : ∀ {ts : List Ty} {xs : List Value}, Flat w xs ts → xs.length = ts.length * 3
 | [], xs, h => by
  have : xs = [] := h
  subst this
  rfl
 | t :: ts, xs, ⟨q, c, zs, he, _, h⟩ => by
  rw [he, List.length_append, h.len, List.length_cons]
  simp [tcells]
  omega
theorem Flat.one {w : World} {t : Ty} {h : Hd} {q : Option Addr} {l c : Nat} (hT : TyIs w h q l c t) : Flat w (tcells h q l c) [t] := by
 obtain ⟨h1, h2, h3, h4, h5⟩ := hT
 subst h1 h2
 exact ⟨q, c, [], by simp, ⟨rfl, rfl, h3, h4, h5⟩, rfl⟩
theorem Flat.cells1 {w : World} : ∀ {ts : List Ty} {xs : List Value}, Flat w xs ts → ∀ u ∈ xs, u.oneCell' = true
 | [], xs, h, u, hu => by
  have : xs = [] := h
  subst this
  cases hu
 | t :: ts, xs, ⟨q, c, zs, he, _, h⟩, u, hu => by
  rw [he] at hu
  rcases List.mem_append.1 hu with hu | hu
  ·simp [tcells] at hu
   rcases hu with rfl | rfl | rfl <;> rfl
  ·exact h.cells1 u hu
theorem Flat.get {w : World} : ∀ {ts : List Ty} {xs : List Value}, Flat w xs ts → ∀ i, i < ts.length → ∃ q c, TyIs w (tget ts i).h q (tget ts i).ks.length c (tget ts i) ∧ ∀ j v, (tcells (tget ts i).h q (tget ts i).ks.length c)[j]? = some v → xs[i * 3 + j]? = some v
 | [], xs, _, i, hi => by simp at hi
 | t :: ts, xs, ⟨q, c, zs, he, hT, h⟩, 0, _ => by
  refine ⟨q, c, hT, fun j v hv => ?_⟩
  rw [he, Nat.zero_mul, Nat.zero_add, List.getElem?_append_left ?_]
  ·exact hv
  ·rcases Nat.lt_or_ge j (tcells t.h q t.ks.length c).length with h | h
   ·exact h
   ·rw [List.getElem?_eq_none (by exact h)] at hv; cases hv
 | t :: ts, xs, ⟨q, c, zs, he, hT, h⟩, i + 1, hi => by
  obtain ⟨q', c', h1, h2⟩ := h.get i (by simpa using hi)
  refine ⟨q', c', h1, fun j v hv => ?_⟩
  rw [he, List.getElem?_append_right (by simp [tcells]; omega)]
  have e : (i + 1) * 3 + j - (tcells t.h q t.ks.length c).length = i * 3 + j := by simp [tcells]; omega
  rw [e]
  exact h2 j v hv
theorem Flat.stay {w W : World} (hb : Below w.heap.size w W) : ∀ {ts : List Ty} {xs : List Value}, Flat w xs ts → Flat W xs ts
 | [], xs, h => h
 | t :: ts, xs, ⟨q, c, zs, he, hT, h⟩ => ⟨q, c, zs, he, hT.below hb, h.stay hb⟩
def Reads (w0 W : World) : Prop := ∀ a v, w0.cell? a = some v → W.cell? a = some v
theorem Reads.of_below {w0 W : World} (h : Below w0.heap.size w0 W) : Reads w0 W := fun a v hv => (h.cell (World.block_lt_of_cell? w0 _ hv)).trans hv
theorem Reads.trans {a b c : World} (h : Reads a b) (k : Reads b c) : Reads a c := fun x v hv => k x v (h x v hv)
def veil (P : Nat → Bool) (W : World) : World := { W with heap := W.heap.mapIdx fun i o => if P i = true then o else .cells #[] 0 }
theorem veil_at {P : Nat → Bool} {W : World} {b : Nat} (h : P b = true) : (veil P W).heap[b]? = W.heap[b]? := by
 unfold veil
 simp only [Array.getElem?_mapIdx]
 cases W.heap[b]? with
 | none => rfl
 | some o => simp [h]
theorem veil_seen {P : Nat → Bool} {W : World} {a : Addr} {v : Value} (h : (veil P W).cell? a = some v) : P a.block = true ∧ W.cell? a = some v := by
 cases hp : P a.block
 ·unfold World.cell? veil at h
  simp only [Array.getElem?_mapIdx] at h
  cases ho : W.heap[a.block]? with
  | none => rw [ho] at h; simp at h
  | some o => rw [ho] at h; simp [hp] at h
 ·exact ⟨rfl, by rw [← World.cell?_of_block (veil_at hp)]; exact h⟩
theorem veil_to {P P' : Nat → Bool} {W W' : World} (h : ∀ b, b < W.heap.size → P b = true → P' b = true ∧ W'.heap[b]? = W.heap[b]?) : Reads (veil P W) (veil P' W') := fun a v hv => by
 obtain ⟨hp, hw⟩ := veil_seen hv
 obtain ⟨h1, h2⟩ := h a.block (World.block_lt_of_cell? W _ hw) hp
 rw [World.cell?_of_block (veil_at h1), World.cell?_of_block h2]
 exact hw
theorem Kids.reads' {w W : World} {p : Option Addr} {ts : List Ty} (h : Kids w p ts) (hb : Reads w W) : Kids W p ts := by
 induction h with
 | nokids p => exact .nokids p
 | atkids b o ts q c hh hc hl hk ih => exact .atkids b o ts q c hh (fun i hi j v hv => hb _ _ (hc i hi j v hv)) hl (fun i hi => ih i hi)
theorem TyIs.reads' {w W : World} {h : Hd} {p : Option Addr} {l c : Nat} {t : Ty} (k : TyIs w h p l c t) (hb : Reads w W) : TyIs W h p l c t := ⟨k.head, k.len, k.ok, k.cap, k.kids.reads' hb⟩
theorem Flat.reads {w W : World} (hb : Reads w W) : ∀ {ts : List Ty} {xs : List Value}, Flat w xs ts → Flat W xs ts
 | [], xs, h => h
 | t :: ts, xs, ⟨q, c, zs, he, hT, h⟩ => ⟨q, c, zs, he, hT.reads' hb, h.reads hb⟩
theorem veil_own {P : Nat → Bool} {W : World} {B e size n : Nat} {v : Value} {xs : List Value} (h : W.ownsRow B e size v n xs) (hp : ∀ k, v.ownBlock = some k → P k = true) : (veil P W).ownsRow B e size v n xs := by
 refine ⟨h.1, h.2.imp id ?_⟩
 rintro ⟨g, cap, cur, rfl, hg, hh, r⟩
 exact ⟨g, cap, cur, rfl, hg, by rw [veil_at (hp g rfl)]; exact hh, r⟩
theorem kids_of_flat {W : World} {b : Nat} {xs : List Value} {ts : List Ty} (hc : ∀ j u, xs[j]? = some u → W.cell? ⟨b, j, none⟩ = some u) (hf : Flat W xs ts) : Kids W (some ⟨b, 0, none⟩) ts := by
 have each : ∀ i, ∃ r : Option Addr × Nat, i < ts.length → TyIs W (tget ts i).h r.1 (tget ts i).ks.length r.2 (tget ts i) ∧ ∀ j v, (tcells (tget ts i).h r.1 (tget ts i).ks.length r.2)[j]? = some v → xs[i * 3 + j]? = some v := by
  intro i
  by_cases hi : i < ts.length
  ·obtain ⟨q, c, h1, h2⟩ := hf.get i hi
   exact ⟨(q, c), fun _ => ⟨h1, h2⟩⟩
  ·exact ⟨(none, 0), fun h => absurd h hi⟩
 obtain ⟨R, hR⟩ := Classical.axiomOfChoice each
 refine .atkids b 0 ts (fun i => (R i).1) (fun i => (R i).2) (fun i hi => (hR i hi).1.ok) (fun i hi j v hv => ?_) (fun i hi => (hR i hi).1.cap) (fun i hi => (hR i hi).1.kids)
 rw [Nat.zero_add]
 exact hc _ _ ((hR i hi).2 j v hv)
end Types
end Go.Proofs.YtkfkpjngiffamaaGreatDoor
namespace Go.Proofs.YtkfkpjngiffamaaGreatDoor
open Go.RowKit
set_option linter.unusedVariables false
namespace Types

theorem box_at {w W : World} {cs : Array Value} {ty : TypeId} (hb : Below (w.alloc (.cells cs ty)).heap.size (w.alloc (.cells cs ty)) W) (j : Nat) {v : Value} (hv : cs[j]? = some v) : W.cell? ⟨w.heap.size, j, none⟩ = some v := by
 have hlt : w.heap.size < (w.alloc (.cells cs ty)).heap.size := by simp
 rw [hb.cell (p := ⟨w.heap.size, j, none⟩) hlt, World.cell?_alloc_mark, hv]
theorem box_new {w : World} (O : Obj) : Below w.heap.size w (w.alloc O) := (Below.refl _ _).alloc (Nat.le_refl _) O
theorem below_then {B : Nat} {a w1 w2 : World} (h : Below B a w1) (hb : Below w1.heap.size w1 w2) (hB : B ≤ w1.heap.size) : Below B a w2 := h.trans (hb.mono hB)

end Types
end Go.Proofs.YtkfkpjngiffamaaGreatDoor
namespace Go.Proofs.YtkfkpjngiffamaaGreatDoor
open Go.RowKit
set_option linter.unusedVariables false
namespace Types

theorem kids_one {w : World} {h : Hd} {p : Option Addr} {l c : Nat} {t : Ty} (hT : TyIs w h p l c t) (ty : TypeId) (N : Nat) (hN : N = w.heap.size) :
  Kids (w.alloc (.cells #[.int .u8 h.k, .int .i64 h.v, .slice p l c] ty)) (some ⟨N, 0, none⟩) [t] := by
 subst hN
 have hb : Below w.heap.size w (w.alloc (.cells #[.int .u8 h.k, .int .i64 h.v, .slice p l c] ty)) := (Below.refl _ _).alloc (Nat.le_refl _) _
 have hg : tget [t] 0 = t := rfl
 refine .atkids _ 0 [t] (fun _ => p) (fun _ => c) (fun i hi => ?_) (fun i hi j v hv => ?_) (fun i hi => ?_) (fun i hi => ?_)
 all_goals
  have hi0 : i = 0 := by simp at hi; omega
  subst hi0
 ·rw [hg, hT.head]; exact hT.ok
 ·rw [hg, hT.head, hT.len] at hv
  rw [show (0 + 0 * 3 + j) = j from by omega, World.cell?_alloc_mark]
  simpa [tcells] using hv
 ·rw [hg, hT.len]; exact hT.cap
 ·rw [hg]; exact hT.kids.stay hb
theorem below_row {B : Nat} {a w1 w2 : World} {O : Obj} (h : Below B a w1) (hb : Below (w1.alloc O).heap.size (w1.alloc O) w2) (hB : B ≤ w1.heap.size) : Below B a w2 :=
 h.trans (((box_new O).trans (hb.mono (by simp))).mono hB)

theorem one_le : 1 ≤ maxLen := by unfold maxLen; omega
end Types
end Go.Proofs.YtkfkpjngiffamaaGreatDoor
namespace Go.Proofs.YtkfkpjngiffamaaGreatDoor
open Go.RowKit
set_option linter.unusedVariables false
namespace Types

theorem own_slice {w : World} {base e size n : Nat} {v : Value} {xs : List Value} (h : w.ownsRow base e size v n xs) : ∃ a c, v = .slice a n c ∧ c ≤ maxLen ∧ n ≤ c := by
 rcases h.2 with ⟨hv, h0⟩ | ⟨g, cap, _, hv, _, _, h1, h2, _⟩
 ·subst h0; exact ⟨none, 0, hv, by unfold maxLen; omega, Nat.le_refl _⟩
 ·exact ⟨_, cap, hv, h2, h1⟩
theorem own_at {w : World} {base e size n c : Nat} {a : Option Addr} {xs : List Value} (h : w.ownsRow base e size (.slice a n c) n xs) (hn : 0 < n) : ∃ g, a = some ⟨g, 0, none⟩ ∧ base ≤ g := by
 rcases h.2 with ⟨_, h0⟩ | ⟨g, cap, _, hv, hg, _⟩
 ·omega
 ·injection hv with hv; exact ⟨g, hv, hg⟩
def from_ (M : Nat) (i : Nat) : Bool := decide (M ≤ i)
def seen (B : Nat) (v : Value) (i : Nat) : Bool := decide (B ≤ i ∧ v.ownBlock ≠ some i)
theorem seen_iff {B : Nat} {v : Value} {i : Nat} : seen B v i = true ↔ B ≤ i ∧ v.ownBlock ≠ some i := by unfold seen; exact decide_eq_true_iff
end Types
end Go.Proofs.YtkfkpjngiffamaaGreatDoor
namespace Go.Proofs.YtkfkpjngiffamaaGreatDoor
open Go.RowKit
set_option linter.unusedVariables false
namespace Types

theorem cells3 {W : World} {N : Nat} {a0 a1 a2 : Value} {ty : TypeId} (h : W.heap[N]? = some (.cells #[a0, a1, a2] ty (0, 0))) :
  (W.cell? ⟨N, 0, none⟩ = some a0 ∧ W.cell? ⟨N, 1, none⟩ = some a1 ∧ W.cell? ⟨N, 2, none⟩ = some a2) ∧ (W.frozen? ⟨N, 0, none⟩ = false ∧ W.frozen? ⟨N, 1, none⟩ = false ∧ W.frozen? ⟨N, 2, none⟩ = false) := by
 simp [World.cell?, World.frozen?, h]
end Types
end Go.Proofs.YtkfkpjngiffamaaGreatDoor

