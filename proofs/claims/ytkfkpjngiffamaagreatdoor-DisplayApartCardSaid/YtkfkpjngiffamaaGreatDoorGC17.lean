import Derived.Test.YtkfkpjngiffamaaGreatDoorGC10
namespace Go.Proofs.YtkfkpjngiffamaaGreatDoor
open Go.RowKit
set_option linter.unusedVariables false
set_option linter.unusedSimpArgs false
namespace Disp
open Aterm (AT Hd tget wt wts nodeB allT allK)
open Effect (At ofA textE textA digs atomB)
open Types (jb bl wInt wOpen wShut wStar wRef wArrow bl_jb bl_inj bl_app bl_cons bl_one bl_append jb_one)
open Rt (wAt wBang kw)

inductive SE where
 | atom : ByteArray → SE
 | node : List SE → SE
mutual
def sz : SE → Nat
 | .atom _ => 1
 | .node l => szs l + 1
def szs : List SE → Nat
 | [] => 0
 | t :: ts => sz t + szs ts
end
mutual
def flatS : SE → List ByteArray
 | .atom w => [w]
 | .node l => wOpen :: (flatL l ++ [wShut])
def flatL : List SE → List ByteArray
 | [] => []
 | t :: ts => flatS t ++ flatL ts
end
mutual
def atomsS : SE → List ByteArray
 | .atom w => [w]
 | .node l => atomsL l
def atomsL : List SE → List ByteArray
 | [] => []
 | t :: ts => atomsS t ++ atomsL ts
end
mutual
def nodesS : SE → Nat
 | .atom _ => 0
 | .node l => nodesL l + 1
def nodesL : List SE → Nat
 | [] => 0
 | t :: ts => nodesS t + nodesL ts
end
theorem sz_atom (w : ByteArray) : sz (.atom w) = 1 := by rw [sz]
theorem sz_node (l : List SE) : sz (.node l) = szs l + 1 := by rw [sz]
theorem szs_cons (t : SE) (ts : List SE) : szs (t :: ts) = sz t + szs ts := by rw [szs]
theorem flatS_atom (w : ByteArray) : flatS (.atom w) = [w] := by rw [flatS]
theorem flatS_node (l : List SE) : flatS (.node l) = wOpen :: (flatL l ++ [wShut]) := by rw [flatS]
theorem flatL_nil : flatL [] = [] := by rw [flatL]
theorem flatL_cons (t : SE) (ts : List SE) : flatL (t :: ts) = flatS t ++ flatL ts := by rw [flatL]
theorem atomsS_atom (w : ByteArray) : atomsS (.atom w) = [w] := by rw [atomsS]
theorem atomsS_node (l : List SE) : atomsS (.node l) = atomsL l := by rw [atomsS]
theorem atomsL_nil : atomsL [] = [] := by rw [atomsL]
theorem atomsL_cons (t : SE) (ts : List SE) : atomsL (t :: ts) = atomsS t ++ atomsL ts := by rw [atomsL]
theorem nodesS_atom (w : ByteArray) : nodesS (.atom w) = 0 := by rw [nodesS]
theorem nodesS_node (l : List SE) : nodesS (.node l) = nodesL l + 1 := by rw [nodesS]
theorem nodesL_nil : nodesL [] = 0 := by rw [nodesL]
theorem nodesL_cons (t : SE) (ts : List SE) : nodesL (t :: ts) = nodesS t + nodesL ts := by rw [nodesL]
theorem flatL_append : ∀ l k : List SE, flatL (l ++ k) = flatL l ++ flatL k
 | [], k => by rw [flatL_nil]; rfl
 | t :: ts, k => by rw [List.cons_append, flatL_cons, flatL_cons, flatL_append ts k, List.append_assoc]
theorem atomsL_append : ∀ l k : List SE, atomsL (l ++ k) = atomsL l ++ atomsL k
 | [], k => by rw [atomsL_nil]; rfl
 | t :: ts, k => by rw [List.cons_append, atomsL_cons, atomsL_cons, atomsL_append ts k, List.append_assoc]
theorem nodesL_append : ∀ l k : List SE, nodesL (l ++ k) = nodesL l + nodesL k
 | [], k => by rw [nodesL_nil, Nat.zero_add]; rfl
 | t :: ts, k => by rw [List.cons_append, nodesL_cons, nodesL_cons, nodesL_append ts k]; omega
theorem sz_pos (t : SE) : 0 < sz t := by
 cases t
 ·rw [sz_atom]; omega
 ·rw [sz_node]; omega
def okW (w : ByteArray) : Prop := w ≠ wOpen ∧ w ≠ wShut ∧ w.data.toList ≠ [] ∧ ∀ b ∈ w.data.toList, 33 ≤ b.toNat ∧ b.toNat < 128
def Good (s : SE) : Prop := ∀ w ∈ atomsS s, okW w
def GoodL (l : List SE) : Prop := ∀ w ∈ atomsL l, okW w
theorem GoodL.head {t : SE} {ts : List SE} (h : GoodL (t :: ts)) : Good t := fun w hw => h w (by rw [atomsL_cons]; exact List.mem_append.2 (.inl hw))
theorem GoodL.tail {t : SE} {ts : List SE} (h : GoodL (t :: ts)) : GoodL ts := fun w hw => h w (by rw [atomsL_cons]; exact List.mem_append.2 (.inr hw))
theorem Good.kids {l : List SE} (h : Good (.node l)) : GoodL l := fun w hw => h w (by rw [atomsS_node]; exact hw)
theorem Good.word {w : ByteArray} (h : Good (.atom w)) : okW w := h w (by rw [atomsS_atom]; exact List.mem_singleton.2 rfl)
theorem d_os : wOpen ≠ wShut := by decide
theorem flat_head {t : SE} (h : Good t) : ∃ x r, flatS t = x :: r ∧ x ≠ wShut := by
 cases t with
 | atom w => exact ⟨w, [], flatS_atom w, h.word.2.1⟩
 | node l => exact ⟨wOpen, _, flatS_node l, d_os⟩
theorem flat_inj : ∀ m : Nat, (∀ a b r s, sz a ≤ m → Good a → Good b → flatS a ++ r = flatS b ++ s → a = b ∧ r = s) ∧ (∀ l k r s, szs l ≤ m → GoodL l → GoodL k → flatL l ++ wShut :: r = flatL k ++ wShut :: s → l = k ∧ r = s) := by
 intro m
 induction m with
 | zero =>
  refine ⟨fun a b r s h => by have := sz_pos a; omega, fun l k r s h hl hk e => ?_⟩
  cases l with
  | cons t ts => rw [szs_cons] at h; have := sz_pos t; omega
  | nil =>
   cases k with
   | nil => rw [flatL_nil] at e; simp at e; exact ⟨rfl, e⟩
   | cons u us =>
    obtain ⟨x, q, e2, hx⟩ := flat_head hk.head
    rw [flatL_nil, flatL_cons, e2] at e
    simp only [List.nil_append, List.cons_append, List.cons.injEq] at e
    exact absurd e.1.symm hx
 | succ m ih =>
  have hS : ∀ a b r s, sz a ≤ m + 1 → Good a → Good b → flatS a ++ r = flatS b ++ s → a = b ∧ r = s := by
   intro a b r s h ha hb e
   cases a with
   | atom w =>
    cases b with
    | atom v =>
     rw [flatS_atom, flatS_atom] at e
     simp only [List.cons_append, List.nil_append, List.cons.injEq] at e
     exact ⟨by rw [e.1], e.2⟩
    | node k =>
     rw [flatS_atom, flatS_node] at e
     simp only [List.cons_append, List.cons.injEq] at e
     exact absurd e.1 ha.word.1
   | node l =>
    cases b with
    | atom v =>
     rw [flatS_atom, flatS_node] at e
     simp only [List.cons_append, List.cons.injEq] at e
     exact absurd e.1.symm hb.word.1
    | node k =>
     rw [flatS_node, flatS_node] at e
     simp only [List.cons_append, List.cons.injEq, List.append_assoc, true_and, List.nil_append] at e
     rw [sz_node] at h
     obtain ⟨e1, e2⟩ := ih.2 l k r s (by omega) ha.kids hb.kids e
     exact ⟨by rw [e1], e2⟩
  refine ⟨hS, fun l => ?_⟩
  induction l with
  | nil =>
   intro k r s h hl hk e
   cases k with
   | nil => rw [flatL_nil] at e; simp at e; exact ⟨rfl, e⟩
   | cons u us =>
    obtain ⟨x, q, e2, hx⟩ := flat_head hk.head
    rw [flatL_nil, flatL_cons, e2] at e
    simp only [List.nil_append, List.cons_append, List.cons.injEq] at e
    exact absurd e.1.symm hx
  | cons t ts ihl =>
   intro k r s h hl hk e
   rw [szs_cons] at h
   cases k with
   | nil =>
    obtain ⟨x, q, e2, hx⟩ := flat_head hl.head
    rw [flatL_nil, flatL_cons, e2] at e
    simp only [List.nil_append, List.cons_append, List.cons.injEq] at e
    exact absurd e.1 hx
   | cons u us =>
    rw [flatL_cons, flatL_cons, List.append_assoc, List.append_assoc] at e
    obtain ⟨e1, e2⟩ := hS t u _ _ (by omega) hl.head hk.head e
    obtain ⟨e3, e4⟩ := ihl us r s (by omega) hl.tail hk.tail e2
    exact ⟨by rw [e1, e3], e4⟩
theorem flat_one {a b : SE} (ha : Good a) (hb : Good b) (h : flatS a = flatS b) : a = b :=
 ((flat_inj (sz a)).1 a b [] [] (Nat.le_refl _) ha hb (by rw [h])).1
def cnt (x : ByteArray) (l : List ByteArray) : Nat := l.countP fun y => decide (y = x)
theorem cnt_append (x : ByteArray) (l k : List ByteArray) : cnt x (l ++ k) = cnt x l + cnt x k := by unfold cnt; rw [List.countP_append]
theorem cnt_cons (x y : ByteArray) (l : List ByteArray) : cnt x (y :: l) = cnt x l + if y = x then 1 else 0 := by unfold cnt; rw [List.countP_cons]; simp
theorem cnt_nil (x : ByteArray) : cnt x [] = 0 := rfl
theorem cnt_all : ∀ m : Nat, (∀ a, sz a ≤ m → Good a → cnt wOpen (flatS a) = nodesS a ∧ cnt wShut (flatS a) = nodesS a) ∧ (∀ l, szs l ≤ m → GoodL l → cnt wOpen (flatL l) = nodesL l ∧ cnt wShut (flatL l) = nodesL l) := by
 intro m
 induction m with
 | zero =>
  refine ⟨fun a h => by have := sz_pos a; omega, fun l h _ => ?_⟩
  cases l with
  | nil => rw [flatL_nil, nodesL_nil]; exact ⟨rfl, rfl⟩
  | cons t ts => rw [szs_cons] at h; have := sz_pos t; omega
 | succ m ih =>
  have hS : ∀ a, sz a ≤ m + 1 → Good a → cnt wOpen (flatS a) = nodesS a ∧ cnt wShut (flatS a) = nodesS a := by
   intro a h ha
   cases a with
   | atom w =>
    rw [flatS_atom, nodesS_atom, cnt_cons, cnt_cons, cnt_nil, cnt_nil, if_neg ha.word.1, if_neg ha.word.2.1]
    exact ⟨rfl, rfl⟩
   | node l =>
    rw [sz_node] at h
    have h1 := ih.2 l (by omega) ha.kids
    rw [flatS_node, nodesS_node, cnt_cons, cnt_cons, cnt_append, cnt_append, cnt_cons, cnt_cons, cnt_nil, cnt_nil, if_pos rfl, if_pos rfl, if_neg d_os, if_neg d_os.symm, h1.1, h1.2]
    exact ⟨by omega, by omega⟩
  refine ⟨hS, fun l => ?_⟩
  induction l with
  | nil => intro _ _; rw [flatL_nil, nodesL_nil]; exact ⟨rfl, rfl⟩
  | cons t ts ihl =>
   intro h hl
   rw [szs_cons] at h
   have h1 := hS t (by omega) hl.head
   have h2 := ihl (by omega) hl.tail
   rw [flatL_cons, nodesL_cons, cnt_append, cnt_append, h1.1, h1.2, h2.1, h2.2]
   exact ⟨rfl, rfl⟩
theorem cnt_flat {a : SE} (ha : Good a) : cnt wOpen (flatS a) = nodesS a ∧ cnt wShut (flatS a) = nodesS a := (cnt_all (sz a)).1 a (Nat.le_refl _) ha
theorem flat_words : ∀ m : Nat, (∀ a, sz a ≤ m → ∀ w ∈ flatS a, w = wOpen ∨ w = wShut ∨ w ∈ atomsS a) ∧ (∀ l, szs l ≤ m → ∀ w ∈ flatL l, w = wOpen ∨ w = wShut ∨ w ∈ atomsL l) := by
 intro m
 induction m with
 | zero =>
  refine ⟨fun a h => by have := sz_pos a; omega, fun l h w hw => ?_⟩
  cases l with
  | nil => rw [flatL_nil] at hw; cases hw
  | cons t ts => rw [szs_cons] at h; have := sz_pos t; omega
 | succ m ih =>
  have hS : ∀ a, sz a ≤ m + 1 → ∀ w ∈ flatS a, w = wOpen ∨ w = wShut ∨ w ∈ atomsS a := by
   intro a h w hw
   cases a with
   | atom v => rw [flatS_atom] at hw; rw [atomsS_atom]; exact .inr (.inr hw)
   | node l =>
    rw [sz_node] at h
    rw [flatS_node, List.mem_cons, List.mem_append, List.mem_singleton] at hw
    rw [atomsS_node]
    rcases hw with hw | hw | hw
    ·exact .inl hw
    ·exact ih.2 l (by omega) w hw
    ·exact .inr (.inl hw)
  refine ⟨hS, fun l => ?_⟩
  induction l with
  | nil => intro _ w hw; rw [flatL_nil] at hw; cases hw
  | cons t ts ihl =>
   intro h w hw
   rw [szs_cons] at h
   rw [flatL_cons, List.mem_append] at hw
   rw [atomsL_cons]
   rcases hw with hw | hw
   ·rcases hS t (by omega) w hw with h1 | h1 | h1
    ·exact .inl h1
    ·exact .inr (.inl h1)
    ·exact .inr (.inr (List.mem_append.2 (.inl h1)))
   ·rcases ihl (by omega) w hw with h1 | h1 | h1
    ·exact .inl h1
    ·exact .inr (.inl h1)
    ·exact .inr (.inr (List.mem_append.2 (.inr h1)))
def Seen (w : ByteArray) : Prop := w.data.toList ≠ [] ∧ ∀ b ∈ w.data.toList, 33 ≤ b.toNat ∧ b.toNat < 128
theorem seen_flat {a : SE} (ha : Good a) : ∀ w ∈ flatS a, Seen w := by
 intro w hw
 rcases (flat_words (sz a)).1 a (Nat.le_refl _) w hw with rfl | rfl | h
 ·unfold Seen wOpen; simp
 ·unfold Seen wShut; simp
 ·exact (ha w h).2.2
theorem flat_ne (a : SE) : flatS a ≠ [] := by
 cases a
 ·rw [flatS_atom]; simp
 ·rw [flatS_node]; simp

def Eqv (x y : List ByteArray) : Prop := (x = [] ↔ y = []) ∧ bl (jb x) = bl (jb y)
theorem Eqv.refl (x : List ByteArray) : Eqv x x := ⟨Iff.rfl, rfl⟩
theorem Eqv.app {x y u v : List ByteArray} (h : Eqv x y) (k : Eqv u v) : Eqv (x ++ u) (y ++ v) := by
 by_cases hx : x = []
 ·have hy := h.1.1 hx
  subst hx hy
  exact k
 ·have hy : y ≠ [] := fun e => hx (h.1.2 e)
  by_cases hu : u = []
  ·have hv := k.1.1 hu
   subst hu hv
   rw [List.append_nil, List.append_nil]
   exact h
  ·have hv : v ≠ [] := fun e => hu (k.1.2 e)
   exact ⟨by simp [hx, hy], by rw [bl_app hx hu, bl_app hy hv, h.2, k.2]⟩
theorem Eqv.cons {u v : List ByteArray} (w : ByteArray) (k : Eqv u v) : Eqv (w :: u) (w :: v) := (Eqv.refl [w]).app k
theorem Eqv.put {w : ByteArray} {ws u v : List ByteArray} (h : Eqv [w] ws) (k : Eqv u v) : Eqv (w :: u) (ws ++ v) := h.app k
theorem Eqv.one {w : ByteArray} {ws : List ByteArray} (hn : ws ≠ []) (h : bl w = bl (jb ws)) : Eqv [w] ws := ⟨by simp [hn], by rw [bl_one]; exact h⟩
theorem Eqv.jb {x y : List ByteArray} (h : Eqv x y) : Types.jb x = Types.jb y := bl_inj h.2
end Disp
end Go.Proofs.YtkfkpjngiffamaaGreatDoor
namespace Go.Proofs.YtkfkpjngiffamaaGreatDoor
open Go.RowKit
set_option linter.unusedVariables false
set_option linter.unusedSimpArgs false
namespace Disp
open Aterm (AT Hd tget wt wts nodeB allT allK)
open Effect (At ofA textE textA digs atomB)
open Types (jb bl wInt wOpen wShut wStar wRef wArrow bl_jb bl_inj bl_app bl_cons bl_one bl_append jb_one)
open Rt (wAt wBang kw)
open SE (atom node)

def nS : SE := atom ⟨#[]⟩
def kS (ks : List SE) (i : Nat) : SE := ks.getD i nS
def wGetA : ByteArray := ⟨#[103, 101, 116]⟩
def wPutA : ByteArray := ⟨#[112, 117, 116]⟩
def wExnA : ByteArray := ⟨#[101, 120, 110]⟩
def wNone : ByteArray := ⟨#[110, 111, 110, 101]⟩
def aKey (x : At) : ByteArray := if x.k = 1 then wGetA else if x.k = 2 then wPutA else wExnA
def aVal (x : At) : ByteArray := if x.k = 1 then digs x.r else if x.k = 2 then digs x.r else x.x
def tailA : List At → List SE
 | [] => []
 | x :: xs => atom wComma :: atom (aKey x) :: atom (aVal x) :: tailA xs
def effA : List At → List SE
 | [] => [atom wNone]
 | x :: xs => atom (aKey x) :: atom (aVal x) :: tailA xs
theorem textA_eq (x : At) : bl (textA x) = bl (aKey x) ++ 32 :: bl (aVal x) := by
 unfold textA aKey aVal
 by_cases h1 : x.k = 1
 ·rw [if_pos h1, if_pos h1, if_pos h1, bl_append]; rfl
 ·rw [if_neg h1, if_neg h1, if_neg h1]
  by_cases h2 : x.k = 2
  ·rw [if_pos h2, if_pos h2, if_pos h2, bl_append]; rfl
  ·rw [if_neg h2, if_neg h2, if_neg h2, bl_append]; rfl
theorem tail_eq : ∀ l : List At, Lib.joinTail [32, 44, 32] (l.map fun x => bl (textA x)) = Lib.joinTail [32] ((flatL (tailA l)).map bl)
 | [] => by rw [tailA, flatL_nil]; rfl
 | x :: xs => by
  have ih := tail_eq xs
  rw [tailA, flatL_cons, flatL_cons, flatL_cons, flatS_atom, flatS_atom, flatS_atom]
  unfold Lib.joinTail at ih ⊢
  rw [List.map_cons, List.map_cons, List.flatten_cons, ih, textA_eq]
  simp [wComma, bl]
theorem eff_eq (l : List At) : bl (textE l) = bl (jb (flatL (effA l))) := by
 cases l with
 | nil => unfold textE; rw [if_pos rfl, effA, flatL_cons, flatL_nil, flatS_atom, List.append_nil, jb_one]; rfl
 | cons x xs =>
  unfold textE
  rw [if_neg (by simp), effA, flatL_cons, flatL_cons, flatS_atom, flatS_atom, bl_jb]
  have e : bl (Effect.joinT ((x :: xs).map textA)) = Lib.join (((x :: xs).map textA).map bl) [32, 44, 32] := by unfold Effect.joinT bl; simp
  rw [e]
  simp only [List.map_cons, List.cons_append, List.nil_append, List.map_append]
  rw [Lib.join_cons, Lib.join_cons, textA_eq]
  have ht := tail_eq xs
  rw [List.map_map]
  have ht2 : Lib.joinTail [32, 44, 32] (xs.map (bl ∘ textA)) = Lib.joinTail [32] ((flatL (tailA xs)).map bl) := ht
  rw [ht2]
  unfold Lib.joinTail
  simp
theorem effA_ne (l : List At) : flatL (effA l) ≠ [] := by
 cases l <;> (rw [effA, flatL_cons, flatS_atom]; simp)
theorem eff_eqv (e : List At) : Eqv [efT e] (flatL (effA (ofA e))) := Eqv.one (effA_ne _) (eff_eq _)

def inR (h : Rt.Hd) (ks : List SE) : List SE := if h.k = 2 then [kS ks 0, atom wStar, kS ks 1, atom wAt, atom (digs h.r)] else if h.k = 3 then [atom wRef, kS ks 0, atom wAt, atom (digs h.r)] else kS ks 0 :: atom wArrow :: kS ks 1 :: atom wBang :: (effA (ofA h.e) ++ [atom wAt, atom (digs h.r)])
def rhS (h : Rt.Hd) (ks : List SE) : SE := if h.k = 1 then atom wInt else node (inR h ks)
mutual
def sxR : Rt.RT → SE
 | .node h l => rhS h (sxRK l)
def sxRK : List Rt.RT → List SE
 | [] => []
 | t :: ts => sxR t :: sxRK ts
end
theorem sxR_eq (t : Rt.RT) : sxR t = rhS t.h (sxRK t.ks) := by cases t; rw [sxR]; rfl
theorem sxRK_map : ∀ ts : List Rt.RT, sxRK ts = ts.map sxR
 | [] => by rw [sxRK]; rfl
 | t :: ts => by rw [sxRK, sxRK_map ts]; rfl
theorem kR_get {ts : List Rt.RT} {i : Nat} (h : i < ts.length) : kS (sxRK ts) i = sxR (Rt.tget ts i) := by
 unfold kS Rt.tget
 rw [sxRK_map, List.getD_eq_getElem?_getD, List.getElem?_map, List.getElem?_eq_getElem h, List.getD_eq_getElem?_getD, List.getElem?_eq_getElem h]
 rfl
theorem ty_eqv : ∀ m : Nat, ∀ t : Rt.RT, Rt.wt t ≤ m → Rt.mayT t = true → Eqv (Rt.wordsT t) (flatS (sxR t)) := by
 intro m
 induction m with
 | zero => intro t h; have := Rt.wt_pos t; omega
 | succ m ih =>
  intro t h hm
  obtain ⟨hk, -⟩ := Rt.may_node hm
  rw [Rt.wordsT_eq, sxR_eq]
  unfold Rt.comb rhS inR
  rcases hk with ⟨hk, hl, -⟩ | ⟨hk, hl⟩ | ⟨hk, hl⟩
  ·rw [if_pos hk, if_pos hk, flatS_atom]; exact Eqv.refl _
  ·have h0 := ih (Rt.tget t.ks 0) (by have := Rt.wt1 hl; omega) (Rt.may_kid hm (by omega))
   have k0 := Rt.kw_get (show 0 < t.ks.length by omega)
   have k1 := kR_get (show 0 < t.ks.length by omega)
   have e1 : ¬ t.h.k = 1 := by omega
   have e2 : ¬ t.h.k = 2 := by omega
   rw [if_neg e1, if_neg e1, if_neg e2, if_neg e2, if_pos hk, if_pos hk, k0, k1, flatS_node]
   simp only [flatL_cons, flatL_nil, flatS_atom, List.append_assoc, List.cons_append, List.nil_append, List.append_nil]
   exact Eqv.cons _ (Eqv.cons _ (h0.app (Eqv.refl _)))
  ·have h0 := ih (Rt.tget t.ks 0) (by have := Rt.wt2 hl; omega) (Rt.may_kid hm (by omega))
   have h1 := ih (Rt.tget t.ks 1) (by have := Rt.wt2 hl; omega) (Rt.may_kid hm (by omega))
   have k0 := Rt.kw_get (show 0 < t.ks.length by omega)
   have k1 := kR_get (show 0 < t.ks.length by omega)
   have k2 := Rt.kw_get (show 1 < t.ks.length by omega)
   have k3 := kR_get (show 1 < t.ks.length by omega)
   have e1 : ¬ t.h.k = 1 := by omega
   rcases hk with hk | hk
   ·rw [if_neg e1, if_neg e1, if_pos hk, if_pos hk, k0, k1, k2, k3, flatS_node]
    simp only [flatL_cons, flatL_nil, flatS_atom, List.append_assoc, List.cons_append, List.nil_append, List.append_nil]
    exact Eqv.cons _ (h0.app (Eqv.cons _ (h1.app (Eqv.refl _))))
   ·have e2 : ¬ t.h.k = 2 := by omega
    have e3 : ¬ t.h.k = 3 := by omega
    rw [if_neg e1, if_neg e1, if_neg e2, if_neg e2, if_neg e3, if_neg e3, k0, k1, k2, k3, flatS_node]
    simp only [flatL_cons, flatL_nil, flatL_append, flatS_atom, List.append_assoc, List.cons_append, List.nil_append, List.append_nil]
    exact Eqv.cons _ (h0.app (Eqv.cons _ (h1.app (Eqv.cons _ (Eqv.put (eff_eqv _) (Eqv.refl _))))))
theorem tyT_eqv {t : Rt.RT} (h : Rt.mayT t = true) : Eqv [tyT t] (flatS (sxR t)) := by
 have h1 := ty_eqv _ t (Nat.le_refl _) h
 exact Eqv.one (flat_ne _) h1.2

def rhosA (rs : List Int) : List SE := atom wBrO :: (rs.map (fun r => atom (digs r)) ++ [atom wBrC])
def atA (r : Int) : List SE := [atom wAt, atom (digs r)]
def inS (h : Hd) (ks : List SE) : List SE :=
 if h.h.k = 3 then kS ks 0 :: atom wComma :: kS ks 1 :: atA h.rho
 else if h.h.k = 4 then [atom wFst, kS ks 0] else if h.h.k = 5 then [atom wSnd, kS ks 0] else if h.h.k = 6 then atom wRef :: kS ks 0 :: atA h.rho else if h.h.k = 7 then [atom wBang, kS ks 0]
 else if h.h.k = 8 then [kS ks 0, atom wPut, kS ks 1] else if h.h.k = 9 then [kS ks 0, atom (signW h.h.op), kS ks 1] else if h.h.k = 10 then [kS ks 0, kS ks 1]
 else if h.h.k = 11 then atom wFn :: atom h.h.arg :: atom wColon :: sxR h.ty :: atom wBang :: (effA (ofA h.e) ++ (atom wTo :: kS ks 0 :: atA h.rho))
 else if h.h.k = 12 then [atom wLet, atom h.h.name, atom wIs, kS ks 0, atom wIn, kS ks 1]
 else if h.h.k = 13 then atom wLetrec :: atom h.h.name :: (rhosA h.rhos ++ (atom h.h.arg :: atom wColon :: sxR h.ty :: atom wArrow :: sxR h.re :: atom wBang :: (effA (ofA h.e) ++ (atom wIs :: kS ks 0 :: (atA h.rho ++ [atom wIn, kS ks 1])))))
 else if h.h.k = 14 then [atom wIf, kS ks 0, atom wThen, kS ks 1, atom wElse, kS ks 2]
 else if h.h.k = 15 then [atom wRaise, atom h.h.exn, kS ks 0, atom wColon, sxR h.ty]
 else if h.h.k = 16 then [atom wTry, kS ks 0, atom wWith, atom h.h.exn, atom h.h.arg, atom wTo, kS ks 1]
 else if h.h.k = 17 then [atom wRegion, atom (digs h.rho), atom wIn, kS ks 0]
 else atom h.h.name :: (rhosA h.rhos ++ (atom wBang :: (effA (ofA h.e) ++ atA h.rho)))
def sxH (h : Hd) (ks : List SE) : SE := if h.h.k = 1 then atom (digs h.h.n) else if h.h.k = 2 then atom h.h.name else node (inS h ks)
mutual
def sx : AT → SE
 | .node h l => sxH h (sxK l)
def sxK : List AT → List SE
 | [] => []
 | t :: ts => sx t :: sxK ts
end
theorem sx_eq (t : AT) : sx t = sxH t.h (sxK t.ks) := by cases t; rw [sx]; rfl
theorem sxK_map : ∀ ts : List AT, sxK ts = ts.map sx
 | [] => by rw [sxK]; rfl
 | t :: ts => by rw [sxK, sxK_map ts]; rfl
theorem kS_get {ts : List AT} {i : Nat} (h : i < ts.length) : kS (sxK ts) i = sx (tget ts i) := by
 unfold kS tget
 rw [sxK_map, List.getD_eq_getElem?_getD, List.getElem?_map, List.getElem?_eq_getElem h, List.getD_eq_getElem?_getD, List.getElem?_eq_getElem h]
 rfl
theorem rhos_flat (rs : List Int) : flatL (rhosA rs) = rhosW rs := by
 have h : ∀ l : List Int, flatL (l.map fun r => atom (digs r)) = l.map digs := fun l => by
  induction l with
  | nil => exact flatL_nil
  | cons x xs ih => rw [List.map_cons, flatL_cons, flatS_atom, ih]; rfl
 unfold rhosA rhosW
 rw [flatL_cons, flatS_atom, flatL_append, h, flatL_cons, flatS_atom, flatL_nil]
 rfl
theorem at_flat (r : Int) : flatL (atA r) = atW r := by unfold atA atW; rw [flatL_cons, flatL_cons, flatL_nil, flatS_atom, flatS_atom]; rfl
theorem ty_may {h : Hd} {n : Nat} (hb : nodeB h n = true) : (h.h.k = 11 ∨ h.h.k = 13 ∨ h.h.k = 15 → Rt.mayT h.ty = true) ∧ (h.h.k = 13 → Rt.mayT h.re = true) := by
 unfold nodeB at hb
 simp only [Bool.and_eq_true] at hb
 obtain ⟨⟨⟨⟨⟨h1, h2⟩, h3⟩, h4⟩, h5⟩, h6⟩ := hb
 refine ⟨fun hk => ?_, fun hk => ?_⟩
 ·unfold Aterm.typOk Aterm.typK at h5
  rw [if_pos (decide_eq_true hk)] at h5; exact h5
 ·unfold Aterm.resOk at h6
  rw [if_pos hk] at h6; exact h6
set_option maxHeartbeats 1600000 in
theorem sx_eqv : ∀ m : Nat, ∀ t : AT, wt t ≤ m → allT nodeB t = true → Eqv (partsT t) (flatS (sx t)) := by
 intro m
 induction m with
 | zero => intro t h; have := Aterm.wt_pos t; omega
 | succ m ih =>
  intro t h hm
  obtain ⟨hty, hre⟩ := ty_may (top_all hm)
  have K := fun i (hi : i < t.ks.length) => kw_get hi
  have S := fun i (hi : i < t.ks.length) => kS_get hi
  rw [partsT_eq, sx_eq]
  unfold comb sxH inW inS
  rcases kinds hm with ⟨hk, hl⟩ | ⟨hk, hl⟩ | ⟨hk, hl⟩ | ⟨hk, hl⟩
  ·rcases hk with hk | hk | hk
   ·rw [if_pos hk, if_pos hk, flatS_atom]; exact Eqv.refl _
   ·simp only [hk, ↓reduceIte, Int.reduceEq, flatS_atom]; exact Eqv.refl _
   ·simp only [hk, ↓reduceIte, Int.reduceEq, flatS_node, flatL_cons, flatL_nil, flatL_append, flatS_atom, rhos_flat, at_flat, List.append_assoc, List.cons_append, List.nil_append, List.append_nil]
    exact Eqv.cons _ (Eqv.cons _ ((Eqv.refl _).app (Eqv.cons _ (Eqv.put (eff_eqv _) (Eqv.refl _)))))
  ·have h0 := ih (tget t.ks 0) (by have := wt1 hl; omega) (kid_all hm (by omega))
   have k0 := K 0 (by omega)
   have s0 := S 0 (by omega)
   rcases hk with hk | hk | hk | hk | hk | hk | hk
   all_goals simp only [hk, ↓reduceIte, Int.reduceEq, k0, s0, flatS_node, flatL_cons, flatL_nil, flatL_append, flatS_atom, rhos_flat, at_flat, List.append_assoc, List.cons_append, List.nil_append, List.append_nil]
   ·exact Eqv.cons _ (Eqv.cons _ (h0.app (Eqv.refl _)))
   ·exact Eqv.cons _ (Eqv.cons _ (h0.app (Eqv.refl _)))
   ·exact Eqv.cons _ (Eqv.cons _ (h0.app (Eqv.refl _)))
   ·exact Eqv.cons _ (Eqv.cons _ (h0.app (Eqv.refl _)))
   ·exact Eqv.cons _ (Eqv.cons _ (Eqv.cons _ (Eqv.cons _ (Eqv.put (tyT_eqv (hty (by omega))) (Eqv.cons _ (Eqv.put (eff_eqv _) (Eqv.cons _ (h0.app (Eqv.refl _)))))))))
   ·exact Eqv.cons _ (Eqv.cons _ (Eqv.cons _ (h0.app (Eqv.cons _ (Eqv.put (tyT_eqv (hty (by omega))) (Eqv.refl _))))))
   ·exact Eqv.cons _ (Eqv.cons _ (Eqv.cons _ (Eqv.cons _ (h0.app (Eqv.refl _)))))
  ·have h0 := ih (tget t.ks 0) (by have := wt2 hl; omega) (kid_all hm (by omega))
   have k0 := K 0 (by omega)
   have s0 := S 0 (by omega)
   have h1 := ih (tget t.ks 1) (by have := wt2 hl; omega) (kid_all hm (by omega))
   have k1 := K 1 (by omega)
   have s1 := S 1 (by omega)
   rcases hk with hk | hk | hk | hk | hk | hk | hk
   all_goals simp only [hk, ↓reduceIte, Int.reduceEq, k0, s0, k1, s1, flatS_node, flatL_cons, flatL_nil, flatL_append, flatS_atom, rhos_flat, at_flat, List.append_assoc, List.cons_append, List.nil_append, List.append_nil]
   ·exact Eqv.cons _ (h0.app (Eqv.cons _ (h1.app (Eqv.refl _))))
   ·exact Eqv.cons _ (h0.app (Eqv.cons _ (h1.app (Eqv.refl _))))
   ·exact Eqv.cons _ (h0.app (Eqv.cons _ (h1.app (Eqv.refl _))))
   ·exact Eqv.cons _ (h0.app (h1.app (Eqv.refl _)))
   ·exact Eqv.cons _ (Eqv.cons _ (Eqv.cons _ (Eqv.cons _ (h0.app (Eqv.cons _ (h1.app (Eqv.refl _)))))))
   ·refine Eqv.cons _ (Eqv.cons _ (Eqv.cons _ ((Eqv.refl _).app (Eqv.cons _ (Eqv.cons _ (Eqv.put (tyT_eqv (hty (by omega))) (Eqv.cons _ (Eqv.put (tyT_eqv (hre hk)) (Eqv.cons _ (Eqv.put (eff_eqv _) (Eqv.cons _ (h0.app ((Eqv.refl _).app (Eqv.cons _ (h1.app (Eqv.refl _))))))))))))))))
   ·exact Eqv.cons _ (Eqv.cons _ (h0.app (Eqv.cons _ (Eqv.cons _ (Eqv.cons _ (Eqv.cons _ (h1.app (Eqv.refl _))))))))
  ·have h0 := ih (tget t.ks 0) (by have := wt3 hl; omega) (kid_all hm (by omega))
   have h1 := ih (tget t.ks 1) (by have := wt3 hl; omega) (kid_all hm (by omega))
   have h2 := ih (tget t.ks 2) (by have := wt3 hl; omega) (kid_all hm (by omega))
   have k0 := K 0 (by omega)
   have s0 := S 0 (by omega)
   have k1 := K 1 (by omega)
   have s1 := S 1 (by omega)
   have k2 := K 2 (by omega)
   have s2 := S 2 (by omega)
   simp only [hk, ↓reduceIte, Int.reduceEq, k0, s0, k1, s1, k2, s2, flatS_node, flatL_cons, flatL_nil, flatL_append, flatS_atom, rhos_flat, at_flat, List.append_assoc, List.cons_append, List.nil_append, List.append_nil]
   exact Eqv.cons _ (Eqv.cons _ (h0.app (Eqv.cons _ (h1.app (Eqv.cons _ (h2.app (Eqv.refl _)))))))
theorem text_flat {t : AT} (h : allT nodeB t = true) : jb (partsT t) = jb (flatS (sx t)) := (sx_eqv _ t (Nat.le_refl _) h).jb
end Disp
end Go.Proofs.YtkfkpjngiffamaaGreatDoor
namespace Go.Proofs.YtkfkpjngiffamaaGreatDoor
open Go.RowKit
set_option linter.unusedVariables false
set_option linter.unusedSimpArgs false
namespace Disp
open Aterm (AT Hd tget wt wts nodeB allT allK)
open Effect (At ofA textE textA digs atomB)
open Types (jb bl wInt wOpen wShut wStar wRef wArrow bl_jb bl_inj bl_app bl_cons bl_one bl_append jb_one)
open Rt (wAt wBang kw)
open Words (nameB exnB wordB ints)
open SE (atom node)

def alB (w : ByteArray) : Prop := w.data.toList ≠ [] ∧ ∀ b ∈ w.data.toList, 48 ≤ b.toNat ∧ b.toNat ≤ 122
theorem ok_al {w : ByteArray} (h : alB w) : okW w := by
 refine ⟨?_, ?_, h.1, fun b hb => ?_⟩
 ·rintro rfl
  have := h.2 40 (by unfold wOpen; simp)
  have e : (40 : UInt8).toNat = 40 := rfl
  omega
 ·rintro rfl
  have := h.2 41 (by unfold wShut; simp)
  have e : (41 : UInt8).toNat = 41 := rfl
  omega
 ·have := h.2 b hb
  omega
theorem word_al {f : Int} {s : ByteArray} (h : wordB f (ints s.data.toList) = true) : alB s ∧ Chars.cls (Chars.el (ints s.data.toList) 0) = f := by
 unfold wordB at h
 obtain ⟨h0, h1, h2, h3⟩ := of_decide_eq_true h
 refine ⟨⟨fun e => h0 (by rw [e]; rfl), fun b hb => ?_⟩, h2⟩
 have hm : (b.toNat : Int) ∈ ints s.data.toList := List.mem_map.2 ⟨b, hb, rfl⟩
 have h4 := h3 _ hm
 unfold Chars.isin at h4
 have h5 := of_decide_eq_true h4
 have hr : Chars.cls (b.toNat : Int) = 3 ∨ Chars.cls (b.toNat : Int) = 4 ∨ Chars.cls (b.toNat : Int) = 2 := by simpa using h5
 unfold Chars.cls at hr
 by_cases c1 : (b.toNat : Int) = 32 ∨ (b.toNat : Int) = 9 ∨ (b.toNat : Int) = 10
 ·rw [if_pos c1] at hr; omega
 rw [if_neg c1] at hr
 by_cases c2 : 48 ≤ (b.toNat : Int) ∧ (b.toNat : Int) ≤ 57
 ·omega
 rw [if_neg c2] at hr
 by_cases c3 : 97 ≤ (b.toNat : Int) ∧ (b.toNat : Int) ≤ 122
 ·omega
 rw [if_neg c3] at hr
 by_cases c4 : 65 ≤ (b.toNat : Int) ∧ (b.toNat : Int) ≤ 90
 ·omega
 rw [if_neg c4] at hr
 split at hr <;> omega
theorem name_al {s : ByteArray} (h : nameB s = true) : alB s := by
 unfold nameB at h
 rw [Bool.and_eq_true] at h
 exact (word_al h.1).1
theorem exn_al {s : ByteArray} (h : exnB s = true) : alB s := (word_al h).1
def fst (w : ByteArray) : Nat := (w.data.toList.headD 0).toNat
theorem name_fst {s : ByteArray} (h : nameB s = true) : 97 ≤ fst s := by
 unfold nameB at h
 rw [Bool.and_eq_true] at h
 obtain ⟨⟨h0, -⟩, h2⟩ := word_al h.1
 unfold fst
 cases hd : s.data.toList with
 | nil => exact absurd hd h0
 | cons b l =>
  rw [hd] at h2
  have e : Chars.el (ints (b :: l)) 0 = (b.toNat : Int) := rfl
  rw [e] at h2
  show 97 ≤ b.toNat
  unfold Chars.cls at h2
  by_cases c1 : (b.toNat : Int) = 32 ∨ (b.toNat : Int) = 9 ∨ (b.toNat : Int) = 10
  ·rw [if_pos c1] at h2; omega
  rw [if_neg c1] at h2
  by_cases c2 : 48 ≤ (b.toNat : Int) ∧ (b.toNat : Int) ≤ 57
  ·rw [if_pos c2] at h2; omega
  rw [if_neg c2] at h2
  by_cases c3 : 97 ≤ (b.toNat : Int) ∧ (b.toNat : Int) ≤ 122
  ·omega
  rw [if_neg c3] at h2
  by_cases c4 : 65 ≤ (b.toNat : Int) ∧ (b.toNat : Int) ≤ 90
  ·rw [if_pos c4] at h2; omega
  rw [if_neg c4] at h2
  split at h2 <;> omega
theorem digs_list {n : Int} (h : 0 ≤ n) : (digs n).data.toList = Lib.decDigits n.toNat := by
 unfold digs Lib.itoa
 rw [if_neg (by omega)]
theorem digs_all {n : Int} (h : 0 ≤ n) : (digs n).data.toList ≠ [] ∧ ∀ b ∈ (digs n).data.toList, 48 ≤ b.toNat ∧ b.toNat ≤ 57 := by
 obtain ⟨h1, h2, h3, h4⟩ := Words.dec_digits n.toNat
 rw [digs_list h]
 exact ⟨h3, Words.digB_all h1⟩
theorem digs_al {n : Int} (h : 0 ≤ n) : alB (digs n) := ⟨(digs_all h).1, fun b hb => by have := (digs_all h).2 b hb; omega⟩
theorem digs_fst {n : Int} (h : 0 ≤ n) : 48 ≤ fst (digs n) ∧ fst (digs n) ≤ 57 := by
 obtain ⟨h1, h2⟩ := digs_all h
 unfold fst
 cases hd : (digs n).data.toList with
 | nil => exact absurd hd h1
 | cons b l => exact h2 b (by rw [hd]; exact List.mem_cons_self)
theorem digs_inj {a b : Int} (ha : 0 ≤ a) (hb : 0 ≤ b) (h : digs a = digs b) : a = b := by
 have e : (digs a).data.toList = (digs b).data.toList := by rw [h]
 rw [digs_list ha, digs_list hb] at e
 have h1 := (Words.dec_digits a.toNat).2.1
 have h2 := (Words.dec_digits b.toNat).2.1
 rw [e, h2] at h1
 omega

structure Nd (h : Hd) : Prop where
 pl : 0 ≤ h.h.pl
 op : if h.h.k = 9 then 1 ≤ h.h.op ∧ h.h.op ≤ 5 else h.h.op = 0
 n : 0 ≤ h.h.n ∧ (h.h.k ≠ 1 → h.h.n = 0)
 name : if h.h.k = 2 ∨ h.h.k = 12 ∨ h.h.k = 13 ∨ h.h.k = 18 then nameB h.h.name = true else h.h.name = ⟨#[]⟩
 arg : if h.h.k = 11 ∨ h.h.k = 13 ∨ h.h.k = 16 then nameB h.h.arg = true else h.h.arg = ⟨#[]⟩
 exn : if h.h.k = 15 ∨ h.h.k = 16 then exnB h.h.exn = true else h.h.exn = ⟨#[]⟩
 rho : 0 ≤ h.rho ∧ (¬ (h.h.k = 3 ∨ h.h.k = 6 ∨ h.h.k = 11 ∨ h.h.k = 13 ∨ h.h.k = 17 ∨ h.h.k = 18) → h.rho = 0)
 rhos : (∀ x ∈ h.rhos, 0 ≤ x) ∧ (¬ (h.h.k = 13 ∨ h.h.k = 18) → h.rhos = [])
 e : h.e = ofA h.e ∧ (¬ (h.h.k = 11 ∨ h.h.k = 13 ∨ h.h.k = 18) → h.e = [])
 ty : if h.h.k = 11 ∨ h.h.k = 13 ∨ h.h.k = 15 then Rt.mayT h.ty = true else h.ty = .node ⟨0, 0, []⟩ []
 re : if h.h.k = 13 then Rt.mayT h.re = true else h.re = .node ⟨0, 0, []⟩ []
theorem empty_of {s : ByteArray} (h : s.size = 0) : s = ⟨#[]⟩ := by
 apply Types.bl_inj
 exact List.length_eq_zero_iff.1 h
theorem plain_of {t : Rt.RT} (h : Aterm.plainB t = true) : t = .node ⟨0, 0, []⟩ [] := by
 unfold Aterm.plainB at h
 obtain ⟨h1, h2, h3, h4⟩ := of_decide_eq_true h
 obtain ⟨⟨k, r, e⟩, l⟩ := t
 simp only [Rt.RT.h, Rt.RT.ks] at *
 subst h1 h2
 rw [nil_of h3, nil_of h4]
theorem nd_of {h : Hd} {n : Nat} (hb : nodeB h n = true) : Nd h := by
 obtain ⟨hk, -⟩ := node_of hb
 unfold nodeB at hb
 simp only [Bool.and_eq_true] at hb
 obtain ⟨⟨⟨⟨⟨h1, h2⟩, h3⟩, h4⟩, h5⟩, h6⟩ := hb
 unfold Aterm.headOk Term.nodeB at h1
 simp only [Bool.and_eq_true] at h1
 obtain ⟨h1, ⟨n1, n2⟩, n3⟩ := h1
 obtain ⟨-, p1, p2, p3⟩ := of_decide_eq_true h1
 have kk : Aterm.likeK h.h.k = (if h.h.k = 17 then 4 else if h.h.k = 18 then 2 else h.h.k) := rfl
 have ek : (Aterm.likeH h.h).k = Aterm.likeK h.h.k := rfl
 have kc : (h.h.k = 17 ∧ Aterm.likeK h.h.k = 4) ∨ (h.h.k = 18 ∧ Aterm.likeK h.h.k = 2) ∨ (h.h.k ≠ 17 ∧ h.h.k ≠ 18 ∧ Aterm.likeK h.h.k = h.h.k) := by
  rw [kk]
  by_cases a : h.h.k = 17
  ·exact .inl ⟨a, if_pos a⟩
  ·rw [if_neg a]
   by_cases b : h.h.k = 18
   ·exact .inr (.inl ⟨b, if_pos b⟩)
   ·exact .inr (.inr ⟨a, b, if_neg b⟩)
 have q1 : 0 ≤ h.h.pl := p1
 have q2 : if Aterm.likeK h.h.k = 9 then 1 ≤ h.h.op ∧ h.h.op ≤ 5 else h.h.op = 0 := p2
 have q3 : 0 ≤ h.h.n ∧ h.h.n ≤ 2147483647 ∧ (Aterm.likeK h.h.k ≠ 1 → h.h.n = 0) := p3
 have m1 : Term.fitsB (Term.nameF (Aterm.likeK h.h.k)) h.h.name (nameB h.h.name) = true := n1
 have m2 : Term.fitsB (Term.argF (Aterm.likeK h.h.k)) h.h.arg (nameB h.h.arg) = true := n2
 have m3 : Term.fitsB (Term.exnF (Aterm.likeK h.h.k)) h.h.exn (exnB h.h.exn) = true := n3
 generalize Aterm.likeK h.h.k = K at *
 refine ⟨q1, ?_, ⟨q3.1, fun hne => q3.2.2 (by omega)⟩, ?_, ?_, ?_, ?_, ?_, ?_, ?_, ?_⟩
 ·by_cases h9 : h.h.k = 9
  ·rw [if_pos h9]; rw [if_pos (by omega)] at q2; exact q2
  ·rw [if_neg h9]; rw [if_neg (by omega)] at q2; exact q2
 ·unfold Term.fitsB Term.nameF at m1
  by_cases c : h.h.k = 2 ∨ h.h.k = 12 ∨ h.h.k = 13 ∨ h.h.k = 18
  ·rw [if_pos c]; rw [if_pos (decide_eq_true (by omega))] at m1; exact m1
  ·rw [if_neg c]; rw [decide_eq_false (by omega), if_neg Bool.false_ne_true] at m1; exact empty_of (of_decide_eq_true m1)
 ·unfold Term.fitsB Term.argF at m2
  by_cases c : h.h.k = 11 ∨ h.h.k = 13 ∨ h.h.k = 16
  ·rw [if_pos c]; rw [if_pos (decide_eq_true (by omega))] at m2; exact m2
  ·rw [if_neg c]; rw [decide_eq_false (by omega), if_neg Bool.false_ne_true] at m2; exact empty_of (of_decide_eq_true m2)
 ·unfold Term.fitsB Term.exnF at m3
  by_cases c : h.h.k = 15 ∨ h.h.k = 16
  ·rw [if_pos c]; rw [if_pos (decide_eq_true (by omega))] at m3; exact m3
  ·rw [if_neg c]; rw [decide_eq_false (by omega), if_neg Bool.false_ne_true] at m3; exact empty_of (of_decide_eq_true m3)
 ·unfold Aterm.rhoOk at h2
  by_cases c : h.h.k = 3 ∨ h.h.k = 6 ∨ h.h.k = 11 ∨ h.h.k = 13 ∨ h.h.k = 18
  ·rw [if_pos c] at h2; exact ⟨of_decide_eq_true h2, fun hn => absurd (by omega) hn⟩
  ·rw [if_neg c] at h2
   by_cases c7 : h.h.k = 17
   ·rw [if_pos c7] at h2; have := of_decide_eq_true h2; exact ⟨by omega, fun hn => absurd (by omega) hn⟩
   ·rw [if_neg c7] at h2; have := of_decide_eq_true h2; exact ⟨by omega, fun _ => this⟩
 ·unfold Aterm.rhosOk at h3
  by_cases c : h.h.k = 13
  ·rw [if_pos c, Bool.and_eq_true] at h3
   have := of_decide_eq_true h3.2
   exact ⟨fun x hx => by have := this x hx; omega, fun hn => absurd (.inl c) hn⟩
  ·rw [if_neg c] at h3
   by_cases c8 : h.h.k = 18
   ·rw [if_pos c8] at h3; exact ⟨of_decide_eq_true h3, fun hn => absurd (.inr c8) hn⟩
   ·rw [if_neg c8] at h3
    have := nil_of (of_decide_eq_true h3)
    exact ⟨fun x hx => (by rw [this] at hx; cases hx), fun _ => this⟩
 ·unfold Aterm.effOk Aterm.effK at h4
  by_cases c : h.h.k = 11 ∨ h.h.k = 13 ∨ h.h.k = 18
  ·rw [if_pos (decide_eq_true c)] at h4; exact ⟨of_decide_eq_true h4, fun hn => absurd c hn⟩
  ·rw [decide_eq_false c, if_neg Bool.false_ne_true] at h4
   have := nil_of (of_decide_eq_true h4)
   exact ⟨by rw [this]; rfl, fun _ => this⟩
 ·unfold Aterm.typOk Aterm.typK at h5
  by_cases c : h.h.k = 11 ∨ h.h.k = 13 ∨ h.h.k = 15
  ·rw [if_pos c]; rw [if_pos (decide_eq_true c)] at h5; exact h5
  ·rw [if_neg c]; rw [decide_eq_false c, if_neg Bool.false_ne_true] at h5; exact plain_of h5
 ·unfold Aterm.resOk at h6
  by_cases c : h.h.k = 13
  ·rw [if_pos c]; rw [if_pos c] at h6; exact h6
  ·rw [if_neg c]; rw [if_neg c] at h6; exact plain_of h6

theorem GoodL.nil : GoodL [] := fun w hw => by rw [atomsL_nil] at hw; cases hw
theorem GoodL.cons {t : SE} {ts : List SE} (h : Good t) (k : GoodL ts) : GoodL (t :: ts) := fun w hw => by
 rw [atomsL_cons, List.mem_append] at hw
 rcases hw with hw | hw
 ·exact h w hw
 ·exact k w hw
theorem GoodL.app {l k : List SE} (h : GoodL l) (h2 : GoodL k) : GoodL (l ++ k) := fun w hw => by
 rw [atomsL_append, List.mem_append] at hw
 rcases hw with hw | hw
 ·exact h w hw
 ·exact h2 w hw
theorem Good.ofL {l : List SE} (h : GoodL l) : Good (node l) := fun w hw => by rw [atomsS_node] at hw; exact h w hw
theorem Good.ofW {w : ByteArray} (h : okW w) : Good (atom w) := fun v hv => by rw [atomsS_atom, List.mem_singleton] at hv; subst hv; exact h
theorem Good.al {w : ByteArray} (h : alB w) : Good (atom w) := Good.ofW (ok_al h)
instance (w : ByteArray) : Decidable (okW w) := by unfold okW; infer_instance
theorem Good.c {w : ByteArray} (h : decide (okW w) = true) : Good (atom w) := Good.ofW (of_decide_eq_true h)
theorem aKey_good (x : At) : Good (atom (aKey x)) := by
 unfold aKey
 by_cases h1 : x.k = 1
 ·rw [if_pos h1]; exact .c (by decide)
 ·rw [if_neg h1]
  by_cases h2 : x.k = 2
  ·rw [if_pos h2]; exact .c (by decide)
  ·rw [if_neg h2]; exact .c (by decide)
theorem atom_facts {x : At} (h : atomB x = true) : (x.k = 3 ∧ x.r = 0 ∧ exnB x.x = true) ∨ ((x.k = 1 ∨ x.k = 2) ∧ 0 ≤ x.r ∧ x.x = ByteArray.empty) := by
 unfold atomB at h
 by_cases h3 : x.k = 3
 ·rw [if_pos h3, Bool.and_eq_true] at h
  exact .inl ⟨h3, of_decide_eq_true h.1, h.2⟩
 ·rw [if_neg h3, Bool.and_eq_true, Bool.and_eq_true, Bool.or_eq_true] at h
  refine .inr ⟨?_, of_decide_eq_true h.1.2, of_decide_eq_true h.2⟩
  rcases h.1.1 with h1 | h1
  ·exact .inl (of_decide_eq_true h1)
  ·exact .inr (of_decide_eq_true h1)
theorem aVal_good {x : At} (h : atomB x = true) : Good (atom (aVal x)) := by
 unfold aVal
 rcases atom_facts h with ⟨hk, -, hx⟩ | ⟨hk | hk, hr, -⟩
 ·rw [if_neg (by omega), if_neg (by omega)]; exact .al (exn_al hx)
 ·rw [if_pos hk]; exact .al (digs_al hr)
 ·rw [if_neg (by omega), if_pos hk]; exact .al (digs_al hr)
theorem tail_good : ∀ {l : List At}, (∀ x ∈ l, atomB x = true) → GoodL (tailA l)
 | [], _ => GoodL.nil
 | x :: xs, h => by
  rw [tailA]
  exact .cons (.c (by decide)) (.cons (aKey_good x) (.cons (aVal_good (h x List.mem_cons_self)) (tail_good fun y hy => h y (List.mem_cons_of_mem _ hy))))
theorem eff_good {l : List At} (h : ∀ x ∈ l, atomB x = true) : GoodL (effA l) := by
 cases l with
 | nil => rw [effA]; exact .cons (.c (by decide)) .nil
 | cons x xs => rw [effA]; exact .cons (aKey_good x) (.cons (aVal_good (h x List.mem_cons_self)) (tail_good fun y hy => h y (List.mem_cons_of_mem _ hy)))
theorem eff_goodO (l : List At) : GoodL (effA (ofA l)) := eff_good fun x hx => ((Effect.mem_of l x).1 hx).2
theorem at_good {r : Int} (h : 0 ≤ r) : GoodL (atA r) := .cons (.c (by decide)) (.cons (.al (digs_al h)) .nil)
theorem rhos_good {rs : List Int} (h : ∀ x ∈ rs, 0 ≤ x) : GoodL (rhosA rs) := by
 unfold rhosA
 refine .cons (.c (by decide)) (.app ?_ (.cons (.c (by decide)) .nil))
 induction rs with
 | nil => exact GoodL.nil
 | cons x xs ih => exact .cons (.al (digs_al (h x List.mem_cons_self))) (ih fun y hy => h y (List.mem_cons_of_mem _ hy))
theorem ty_good : ∀ m : Nat, ∀ t : Rt.RT, Rt.wt t ≤ m → Rt.mayT t = true → Good (sxR t) := by
 intro m
 induction m with
 | zero => intro t h; have := Rt.wt_pos t; omega
 | succ m ih =>
  intro t h hm
  obtain ⟨hk, hr, -⟩ := Rt.may_node hm
  rw [sxR_eq]
  unfold rhS inR
  rcases hk with ⟨hk, hl, -⟩ | ⟨hk, hl⟩ | ⟨hk, hl⟩
  ·rw [if_pos hk]; exact .c (by decide)
  ·have h0 := ih (Rt.tget t.ks 0) (by have := Rt.wt1 hl; omega) (Rt.may_kid hm (by omega))
   rw [if_neg (by omega), if_neg (by omega), if_pos hk, kR_get (show 0 < t.ks.length by omega)]
   exact .ofL (.cons (.c (by decide)) (.cons h0 (at_good hr)))
  ·have h0 := ih (Rt.tget t.ks 0) (by have := Rt.wt2 hl; omega) (Rt.may_kid hm (by omega))
   have h1 := ih (Rt.tget t.ks 1) (by have := Rt.wt2 hl; omega) (Rt.may_kid hm (by omega))
   rcases hk with hk | hk
   ·rw [if_neg (by omega), if_pos hk, kR_get (show 0 < t.ks.length by omega), kR_get (show 1 < t.ks.length by omega)]
    exact .ofL (.cons h0 (.cons (.c (by decide)) (.cons h1 (at_good hr))))
   ·rw [if_neg (by omega), if_neg (by omega), if_neg (by omega), kR_get (show 0 < t.ks.length by omega), kR_get (show 1 < t.ks.length by omega)]
    exact .ofL (.cons h0 (.cons (.c (by decide)) (.cons h1 (.cons (.c (by decide)) (.app (eff_goodO _) (at_good hr))))))
theorem tyS_good {t : Rt.RT} (h : Rt.mayT t = true) : Good (sxR t) := ty_good _ t (Nat.le_refl _) h
theorem sign_good (op : Int) : Good (atom (signW op)) := by
 unfold signW
 by_cases h1 : op = 1
 ·rw [if_pos h1]; exact .c (by decide)
 rw [if_neg h1]
 by_cases h2 : op = 2
 ·rw [if_pos h2]; exact .c (by decide)
 rw [if_neg h2]
 by_cases h3 : op = 3
 ·rw [if_pos h3]; exact .c (by decide)
 rw [if_neg h3]
 by_cases h4 : op = 4
 ·rw [if_pos h4]; exact .c (by decide)
 rw [if_neg h4]; exact .c (by decide)
theorem iff_pos {c : Prop} [Decidable c] {p q : Prop} (h : if c then p else q) (hc : c) : p := by rw [if_pos hc] at h; exact h
theorem iff_neg {c : Prop} [Decidable c] {p q : Prop} (h : if c then p else q) (hc : ¬ c) : q := by rw [if_neg hc] at h; exact h
set_option maxHeartbeats 1600000 in
theorem sx_good : ∀ m : Nat, ∀ t : AT, wt t ≤ m → allT nodeB t = true → Good (sx t) := by
 intro m
 induction m with
 | zero => intro t h; have := Aterm.wt_pos t; omega
 | succ m ih =>
  intro t h hm
  have N := nd_of (top_all hm)
  have S := fun i (hi : i < t.ks.length) => kS_get hi
  have rh := at_good N.rho.1
  have rs := rhos_good N.rhos.1
  have ef := eff_goodO t.h.e
  rw [sx_eq]
  unfold sxH inS
  rcases kinds hm with ⟨hk, hl⟩ | ⟨hk, hl⟩ | ⟨hk, hl⟩ | ⟨hk, hl⟩
  ·rcases hk with hk | hk | hk
   ·rw [if_pos hk]; exact .al (digs_al N.n.1)
   ·simp only [hk, ↓reduceIte, Int.reduceEq]; exact .al (name_al (iff_pos N.name (by omega)))
   ·have nm := Good.al (name_al (iff_pos N.name (by omega)))
    simp only [hk, ↓reduceIte, Int.reduceEq]; exact .ofL (.cons nm (.app rs (.cons (.c (by decide)) (.app ef rh))))
  ·have h0 := ih (tget t.ks 0) (by have := wt1 hl; omega) (kid_all hm (by omega))
   have s0 := S 0 (by omega)
   rcases hk with hk | hk | hk | hk | hk | hk | hk
   ·simp only [hk, ↓reduceIte, Int.reduceEq, s0]; exact .ofL (.cons (.c (by decide)) (.cons h0 .nil))
   ·simp only [hk, ↓reduceIte, Int.reduceEq, s0]; exact .ofL (.cons (.c (by decide)) (.cons h0 .nil))
   ·simp only [hk, ↓reduceIte, Int.reduceEq, s0]; exact .ofL (.cons (.c (by decide)) (.cons h0 rh))
   ·simp only [hk, ↓reduceIte, Int.reduceEq, s0]; exact .ofL (.cons (.c (by decide)) (.cons h0 .nil))
   ·have ar := Good.al (name_al (iff_pos N.arg (by omega)))
    have ty := tyS_good (iff_pos N.ty (by omega))
    simp only [hk, ↓reduceIte, Int.reduceEq, s0]; exact .ofL (.cons (.c (by decide)) (.cons ar (.cons (.c (by decide)) (.cons ty (.cons (.c (by decide)) (.app ef (.cons (.c (by decide)) (.cons h0 rh))))))))
   ·have ex := Good.al (exn_al (iff_pos N.exn (by omega)))
    have ty := tyS_good (iff_pos N.ty (by omega))
    simp only [hk, ↓reduceIte, Int.reduceEq, s0]; exact .ofL (.cons (.c (by decide)) (.cons ex (.cons h0 (.cons (.c (by decide)) (.cons ty .nil)))))
   ·simp only [hk, ↓reduceIte, Int.reduceEq, s0]; exact .ofL (.cons (.c (by decide)) (.cons (.al (digs_al N.rho.1)) (.cons (.c (by decide)) (.cons h0 .nil))))
  ·have h0 := ih (tget t.ks 0) (by have := wt2 hl; omega) (kid_all hm (by omega))
   have s0 := S 0 (by omega)
   have h1 := ih (tget t.ks 1) (by have := wt2 hl; omega) (kid_all hm (by omega))
   have s1 := S 1 (by omega)
   rcases hk with hk | hk | hk | hk | hk | hk | hk
   ·simp only [hk, ↓reduceIte, Int.reduceEq, s0, s1]; exact .ofL (.cons h0 (.cons (.c (by decide)) (.cons h1 rh)))
   ·simp only [hk, ↓reduceIte, Int.reduceEq, s0, s1]; exact .ofL (.cons h0 (.cons (.c (by decide)) (.cons h1 .nil)))
   ·simp only [hk, ↓reduceIte, Int.reduceEq, s0, s1]; exact .ofL (.cons h0 (.cons (sign_good _) (.cons h1 .nil)))
   ·simp only [hk, ↓reduceIte, Int.reduceEq, s0, s1]; exact .ofL (.cons h0 (.cons h1 .nil))
   ·have nm := Good.al (name_al (iff_pos N.name (by omega)))
    simp only [hk, ↓reduceIte, Int.reduceEq, s0, s1]; exact .ofL (.cons (.c (by decide)) (.cons nm (.cons (.c (by decide)) (.cons h0 (.cons (.c (by decide)) (.cons h1 .nil))))))
   ·have nm := Good.al (name_al (iff_pos N.name (by omega)))
    have ar := Good.al (name_al (iff_pos N.arg (by omega)))
    have ty := tyS_good (iff_pos N.ty (by omega))
    have re := tyS_good (iff_pos N.re hk)
    simp only [hk, ↓reduceIte, Int.reduceEq, s0, s1]
    exact .ofL (.cons (.c (by decide)) (.cons nm (.app rs (.cons ar (.cons (.c (by decide)) (.cons ty (.cons (.c (by decide)) (.cons re (.cons (.c (by decide)) (.app ef (.cons (.c (by decide)) (.cons h0 (.app rh (.cons (.c (by decide)) (.cons h1 .nil)))))))))))))))
   ·have ex := Good.al (exn_al (iff_pos N.exn (by omega)))
    have ar := Good.al (name_al (iff_pos N.arg (by omega)))
    simp only [hk, ↓reduceIte, Int.reduceEq, s0, s1]
    exact .ofL (.cons (.c (by decide)) (.cons h0 (.cons (.c (by decide)) (.cons ex (.cons ar (.cons (.c (by decide)) (.cons h1 .nil)))))))
  ·have h0 := ih (tget t.ks 0) (by have := wt3 hl; omega) (kid_all hm (by omega))
   have h1 := ih (tget t.ks 1) (by have := wt3 hl; omega) (kid_all hm (by omega))
   have h2 := ih (tget t.ks 2) (by have := wt3 hl; omega) (kid_all hm (by omega))
   have s0 := S 0 (by omega)
   have s1 := S 1 (by omega)
   have s2 := S 2 (by omega)
   simp only [hk, ↓reduceIte, Int.reduceEq, s0, s1, s2]
   exact .ofL (.cons (.c (by decide)) (.cons h0 (.cons (.c (by decide)) (.cons h1 (.cons (.c (by decide)) (.cons h2 .nil))))))
theorem good_sx {t : AT} (h : allT nodeB t = true) : Good (sx t) := sx_good _ t (Nat.le_refl _) h
end Disp
end Go.Proofs.YtkfkpjngiffamaaGreatDoor
