import Derived.Test.YtkfkpjngiffamaaGreatDoorGC17
import Derived.Test.YtkfkpjngiffamaaGreatDoorGC06
import Derived.Test.YtkfkpjngiffamaaGreatDoorGC20
import Derived.Test.YtkfkpjngiffamaaGreatDoorGC15
import Derived.Test.YtkfkpjngiffamaaGreatDoorGC01
import Derived.Stop.LaidErr
import Derived.LaidMore
import Derived.LaidByTextLater
import Derived.Test.YtkfkpjngiffamaaGreatDoorGC05
import Derived.Test.YtkfkpjngiffamaaGreatDoorGC08
import Derived.OwnWalk
import Derived.Laws.AppendOwn
import Derived.Laws.AppendOwnNone
import Derived.Laws.OwnMore
namespace Go.Proofs.YtkfkpjngiffamaaGreatDoor
open Go.RowKit
set_option linter.unusedVariables false
set_option linter.unusedSimpArgs false
namespace Disp
open Aterm (AT Hd V AtIs HdIs tget wt wts nodeB allT allK smallB)
open Effect (At ofA textE textA digs atomB)
open Types (jb bl wInt wOpen wShut wStar wRef wArrow bl_jb bl_inj bl_app bl_cons bl_one bl_append jb_one)
open Rt (wAt wBang kw)
open Words (nameB exnB wordB ints)
open SE (atom node)

abbrev IMAX : Int := 9223372036854775807
def rngR (h : Rt.Hd) (_ : Nat) : Bool := decide (h.r ≤ 9223372036854775807 ∧ ∀ x ∈ h.e, x.r ≤ 9223372036854775807)
def rngB (h : Hd) (_ : Nat) : Bool := decide (h.rho ≤ IMAX ∧ h.h.n ≤ IMAX ∧ (∀ x ∈ h.rhos, x ≤ IMAX) ∧ ∀ x ∈ h.e, x.r ≤ IMAX) && Rt.allT rngR h.ty && Rt.allT rngR h.re
theorem rng_iff {h : Hd} {n : Nat} : rngB h n = true ↔ h.rho ≤ IMAX ∧ h.h.n ≤ IMAX ∧ (∀ x ∈ h.rhos, x ≤ IMAX) ∧ (∀ x ∈ h.e, x.r ≤ IMAX) ∧ Rt.allT rngR h.ty = true ∧ Rt.allT rngR h.re = true := by
 unfold rngB
 rw [Bool.and_eq_true, Bool.and_eq_true, decide_eq_true_iff]
 exact ⟨fun h => ⟨h.1.1.1, h.1.1.2.1, h.1.1.2.2.1, h.1.1.2.2.2, h.1.2, h.2⟩, fun h => ⟨⟨⟨h.1, h.2.1, h.2.2.1, h.2.2.2.1⟩, h.2.2.2.2.1⟩, h.2.2.2.2.2⟩⟩
theorem hd_rng {w : World} {h : Hd} {v : V} (k : HdIs w h v) (n : Nat) : rngB h n = true :=
 rng_iff.2 ⟨k.rho.2, k.hd.n.2, fun x hx => (k.rhos.ok x hx).2, fun x hx => (k.eok x hx).r.2, Rt.in_rangeT k.ty, Rt.in_rangeT k.re⟩
theorem kids_rng {w : World} {p : Option Addr} {ts : List AT} (h : Aterm.Kids w p ts) : allK rngB ts = true := by
 induction h with
 | nokids p => exact Aterm.allK_nil _
 | atkids b o ts v hh hc hl hk ih =>
  have : ∀ us : List AT, (∀ u ∈ us, allT rngB u = true) → allK rngB us = true := by
   intro us
   induction us with
   | nil => intro _; exact Aterm.allK_nil _
   | cons u us ihu => intro hu; rw [Aterm.allK_cons, hu u List.mem_cons_self, ihu (fun x hx => hu x (List.mem_cons_of_mem _ hx))]; rfl
  refine this ts (fun u hu => ?_)
  obtain ⟨i, hi, e⟩ := List.getElem_of_mem hu
  have e2 : tget ts i = u := by
   have := Aterm.tget_at hi
   rw [List.getElem?_eq_getElem hi, e] at this
   exact (Option.some.inj this).symm
  have h1 := ih i hi
  have h2 := hd_rng (hh i hi) (tget ts i).ks.length
  rw [e2] at h1 h2
  rw [Aterm.allT_eq, h1, h2]; rfl
theorem at_rng {w : World} {h : Hd} {v : V} {l : Nat} {t : AT} (hT : AtIs w h v l t) : allT rngB t = true := by
 rw [Aterm.allT_eq, kids_rng hT.kids, hT.head, hd_rng hT.ok]; rfl

def szW (w : ByteArray) : Prop := w.size ≤ 20
instance (w : ByteArray) : Decidable (szW w) := by unfold szW; infer_instance
theorem digs_sz {n : Int} (h : 0 ≤ n) (h2 : n ≤ IMAX) : szW (digs n) := Effect.digs_size n h h2
theorem word_sz {f : Int} {s : ByteArray} (h : wordB f (ints s.data.toList) = true) : szW s := by
 unfold wordB at h
 have h1 := (of_decide_eq_true h).2.1
 rw [Words.ints_length] at h1
 have e : s.size = s.data.toList.length := rfl
 unfold szW
 omega
theorem name_sz {s : ByteArray} (h : nameB s = true) : szW s := by
 unfold nameB at h
 rw [Bool.and_eq_true] at h
 exact word_sz h.1
theorem exn_sz {s : ByteArray} (h : exnB s = true) : szW s := word_sz h
def Sml (s : SE) : Prop := ∀ w ∈ atomsS s, szW w
def SmlL (l : List SE) : Prop := ∀ w ∈ atomsL l, szW w
theorem SmlL.nil : SmlL [] := fun w hw => by rw [atomsL_nil] at hw; cases hw
theorem SmlL.cons {t : SE} {ts : List SE} (h : Sml t) (k : SmlL ts) : SmlL (t :: ts) := fun w hw => by
 rw [atomsL_cons, List.mem_append] at hw
 rcases hw with hw | hw
 ·exact h w hw
 ·exact k w hw
theorem SmlL.app {l k : List SE} (h : SmlL l) (h2 : SmlL k) : SmlL (l ++ k) := fun w hw => by
 rw [atomsL_append, List.mem_append] at hw
 rcases hw with hw | hw
 ·exact h w hw
 ·exact h2 w hw
theorem Sml.ofL {l : List SE} (h : SmlL l) : Sml (node l) := fun w hw => by rw [atomsS_node] at hw; exact h w hw
theorem Sml.ofW {w : ByteArray} (h : szW w) : Sml (atom w) := fun v hv => by rw [atomsS_atom, List.mem_singleton] at hv; subst hv; exact h
theorem Sml.c {w : ByteArray} (h : decide (szW w) = true) : Sml (atom w) := Sml.ofW (of_decide_eq_true h)
theorem aKey_sml (x : At) : Sml (atom (aKey x)) := by
 unfold aKey
 by_cases h1 : x.k = 1
 ·rw [if_pos h1]; exact .c (by decide)
 ·rw [if_neg h1]
  by_cases h2 : x.k = 2
  ·rw [if_pos h2]; exact .c (by decide)
  ·rw [if_neg h2]; exact .c (by decide)
theorem aVal_sml {x : At} (h : atomB x = true) (hr2 : x.r ≤ IMAX) : Sml (atom (aVal x)) := by
 unfold aVal
 rcases atom_facts h with ⟨hk, -, hx⟩ | ⟨hk | hk, hr, -⟩
 ·rw [if_neg (by omega), if_neg (by omega)]; exact .ofW (exn_sz hx)
 ·rw [if_pos hk]; exact .ofW (digs_sz hr hr2)
 ·rw [if_neg (by omega), if_pos hk]; exact .ofW (digs_sz hr hr2)
theorem tail_sml : ∀ {l : List At}, (∀ x ∈ l, atomB x = true ∧ x.r ≤ IMAX) → SmlL (tailA l)
 | [], _ => SmlL.nil
 | x :: xs, h => by
  rw [tailA]
  exact .cons (.c (by decide)) (.cons (aKey_sml x) (.cons (aVal_sml (h x List.mem_cons_self).1 (h x List.mem_cons_self).2) (tail_sml fun y hy => h y (List.mem_cons_of_mem _ hy))))
theorem eff_sml {l : List At} (h : ∀ x ∈ l, atomB x = true ∧ x.r ≤ IMAX) : SmlL (effA l) := by
 cases l with
 | nil => rw [effA]; exact .cons (.c (by decide)) .nil
 | cons x xs => rw [effA]; exact .cons (aKey_sml x) (.cons (aVal_sml (h x List.mem_cons_self).1 (h x List.mem_cons_self).2) (tail_sml fun y hy => h y (List.mem_cons_of_mem _ hy)))
theorem eff_smlO (l : List At) (hr : ∀ x ∈ l, x.r ≤ IMAX) : SmlL (effA (ofA l)) := eff_sml fun x hx => ⟨((Effect.mem_of l x).1 hx).2, hr x ((Effect.mem_of l x).1 hx).1⟩
theorem at_sml {r : Int} (h : 0 ≤ r) (h2 : r ≤ IMAX) : SmlL (atA r) := .cons (.c (by decide)) (.cons (.ofW (digs_sz h h2)) .nil)
theorem rhos_sml {rs : List Int} (h : ∀ x ∈ rs, 0 ≤ x ∧ x ≤ IMAX) : SmlL (rhosA rs) := by
 unfold rhosA
 refine .cons (.c (by decide)) (.app ?_ (.cons (.c (by decide)) .nil))
 induction rs with
 | nil => exact SmlL.nil
 | cons x xs ih => exact .cons (.ofW (digs_sz (h x List.mem_cons_self).1 (h x List.mem_cons_self).2)) (ih fun y hy => h y (List.mem_cons_of_mem _ hy))
theorem ty_sml : ∀ m : Nat, ∀ t : Rt.RT, Rt.wt t ≤ m → Rt.mayT t = true → Rt.allT rngR t = true → Sml (sxR t) := by
 intro m
 induction m with
 | zero => intro t h; have := Rt.wt_pos t; omega
 | succ m ih =>
  intro t h hm hi
  have hi2 := hi
  rw [Rt.allT_eq, Bool.and_eq_true] at hi2
  obtain ⟨hrr, hee⟩ := of_decide_eq_true hi2.1
  have hki := fun i (hl : i < t.ks.length) => Rt.allK_get _ hl hi2.2
  obtain ⟨hk, hr, -⟩ := Rt.may_node hm
  rw [sxR_eq]
  unfold rhS inR
  rcases hk with ⟨hk, hl, -⟩ | ⟨hk, hl⟩ | ⟨hk, hl⟩
  ·rw [if_pos hk]; exact .c (by decide)
  ·have h0 := ih (Rt.tget t.ks 0) (by have := Rt.wt1 hl; omega) (Rt.may_kid hm (by omega)) (hki _ (by omega))
   rw [if_neg (by omega), if_neg (by omega), if_pos hk, kR_get (show 0 < t.ks.length by omega)]
   exact .ofL (.cons (.c (by decide)) (.cons h0 (at_sml hr hrr)))
  ·have h0 := ih (Rt.tget t.ks 0) (by have := Rt.wt2 hl; omega) (Rt.may_kid hm (by omega)) (hki _ (by omega))
   have h1 := ih (Rt.tget t.ks 1) (by have := Rt.wt2 hl; omega) (Rt.may_kid hm (by omega)) (hki _ (by omega))
   rcases hk with hk | hk
   ·rw [if_neg (by omega), if_pos hk, kR_get (show 0 < t.ks.length by omega), kR_get (show 1 < t.ks.length by omega)]
    exact .ofL (.cons h0 (.cons (.c (by decide)) (.cons h1 (at_sml hr hrr))))
   ·rw [if_neg (by omega), if_neg (by omega), if_neg (by omega), kR_get (show 0 < t.ks.length by omega), kR_get (show 1 < t.ks.length by omega)]
    exact .ofL (.cons h0 (.cons (.c (by decide)) (.cons h1 (.cons (.c (by decide)) (.app (eff_smlO _ hee) (at_sml hr hrr))))))
theorem tyS_sml {t : Rt.RT} (h : Rt.mayT t = true) (hi : Rt.allT rngR t = true) : Sml (sxR t) := ty_sml _ t (Nat.le_refl _) h hi
theorem sign_sml (op : Int) : Sml (atom (signW op)) := by
 unfold signW
 by_cases h1 : op = 1
 ·rw [if_pos h1]; exact .c (by decide)
 rw [if_neg h1]
 by_cases h2 : op = 2
 ·rw [if_pos h2]; exact .c (by decide)
 rw [if_neg h2]
 by_cases h3 : op = 3
 ·rw [if_pos h3]; exact .c (by decide)
 rw [if_neg h3]
 by_cases h4 : op = 4
 ·rw [if_pos h4]; exact .c (by decide)
 rw [if_neg h4]; exact .c (by decide)
set_option maxHeartbeats 1600000 in
theorem sx_sml : ∀ m : Nat, ∀ t : AT, wt t ≤ m → allT nodeB t = true → allT rngB t = true → Sml (sx t) := by
 intro m
 induction m with
 | zero => intro t h; have := Aterm.wt_pos t; omega
 | succ m ih =>
  intro t h hm hi
  obtain ⟨r1, r2, r3, r4, r5, r6⟩ := rng_iff.1 (top_all hi)
  have N := nd_of (top_all hm)
  have S := fun i (hi : i < t.ks.length) => kS_get hi
  have rh := at_sml N.rho.1 r1
  have rs := rhos_sml (fun x hx => ⟨N.rhos.1 x hx, r3 x hx⟩)
  have ef := eff_smlO t.h.e r4
  rw [sx_eq]
  unfold sxH inS
  rcases kinds hm with ⟨hk, hl⟩ | ⟨hk, hl⟩ | ⟨hk, hl⟩ | ⟨hk, hl⟩
  ·rcases hk with hk | hk | hk
   ·rw [if_pos hk]; exact .ofW (digs_sz N.n.1 r2)
   ·simp only [hk, ↓reduceIte, Int.reduceEq]; exact .ofW (name_sz (iff_pos N.name (by omega)))
   ·have nm := Sml.ofW (name_sz (iff_pos N.name (by omega)))
    simp only [hk, ↓reduceIte, Int.reduceEq]; exact .ofL (.cons nm (.app rs (.cons (.c (by decide)) (.app ef rh))))
  ·have h0 := ih (tget t.ks 0) (by have := wt1 hl; omega) (kid_all hm (by omega)) (kid_all hi (by omega))
   have s0 := S 0 (by omega)
   rcases hk with hk | hk | hk | hk | hk | hk | hk
   ·simp only [hk, ↓reduceIte, Int.reduceEq, s0]; exact .ofL (.cons (.c (by decide)) (.cons h0 .nil))
   ·simp only [hk, ↓reduceIte, Int.reduceEq, s0]; exact .ofL (.cons (.c (by decide)) (.cons h0 .nil))
   ·simp only [hk, ↓reduceIte, Int.reduceEq, s0]; exact .ofL (.cons (.c (by decide)) (.cons h0 rh))
   ·simp only [hk, ↓reduceIte, Int.reduceEq, s0]; exact .ofL (.cons (.c (by decide)) (.cons h0 .nil))
   ·have ar := Sml.ofW (name_sz (iff_pos N.arg (by omega)))
    have ty := tyS_sml (iff_pos N.ty (by omega)) r5
    simp only [hk, ↓reduceIte, Int.reduceEq, s0]; exact .ofL (.cons (.c (by decide)) (.cons ar (.cons (.c (by decide)) (.cons ty (.cons (.c (by decide)) (.app ef (.cons (.c (by decide)) (.cons h0 rh))))))))
   ·have ex := Sml.ofW (exn_sz (iff_pos N.exn (by omega)))
    have ty := tyS_sml (iff_pos N.ty (by omega)) r5
    simp only [hk, ↓reduceIte, Int.reduceEq, s0]; exact .ofL (.cons (.c (by decide)) (.cons ex (.cons h0 (.cons (.c (by decide)) (.cons ty .nil)))))
   ·simp only [hk, ↓reduceIte, Int.reduceEq, s0]; exact .ofL (.cons (.c (by decide)) (.cons (.ofW (digs_sz N.rho.1 r1)) (.cons (.c (by decide)) (.cons h0 .nil))))
  ·have h0 := ih (tget t.ks 0) (by have := wt2 hl; omega) (kid_all hm (by omega)) (kid_all hi (by omega))
   have s0 := S 0 (by omega)
   have h1 := ih (tget t.ks 1) (by have := wt2 hl; omega) (kid_all hm (by omega)) (kid_all hi (by omega))
   have s1 := S 1 (by omega)
   rcases hk with hk | hk | hk | hk | hk | hk | hk
   ·simp only [hk, ↓reduceIte, Int.reduceEq, s0, s1]; exact .ofL (.cons h0 (.cons (.c (by decide)) (.cons h1 rh)))
   ·simp only [hk, ↓reduceIte, Int.reduceEq, s0, s1]; exact .ofL (.cons h0 (.cons (.c (by decide)) (.cons h1 .nil)))
   ·simp only [hk, ↓reduceIte, Int.reduceEq, s0, s1]; exact .ofL (.cons h0 (.cons (sign_sml _) (.cons h1 .nil)))
   ·simp only [hk, ↓reduceIte, Int.reduceEq, s0, s1]; exact .ofL (.cons h0 (.cons h1 .nil))
   ·have nm := Sml.ofW (name_sz (iff_pos N.name (by omega)))
    simp only [hk, ↓reduceIte, Int.reduceEq, s0, s1]; exact .ofL (.cons (.c (by decide)) (.cons nm (.cons (.c (by decide)) (.cons h0 (.cons (.c (by decide)) (.cons h1 .nil))))))
   ·have nm := Sml.ofW (name_sz (iff_pos N.name (by omega)))
    have ar := Sml.ofW (name_sz (iff_pos N.arg (by omega)))
    have ty := tyS_sml (iff_pos N.ty (by omega)) r5
    have re := tyS_sml (iff_pos N.re hk) r6
    simp only [hk, ↓reduceIte, Int.reduceEq, s0, s1]
    exact .ofL (.cons (.c (by decide)) (.cons nm (.app rs (.cons ar (.cons (.c (by decide)) (.cons ty (.cons (.c (by decide)) (.cons re (.cons (.c (by decide)) (.app ef (.cons (.c (by decide)) (.cons h0 (.app rh (.cons (.c (by decide)) (.cons h1 .nil)))))))))))))))
   ·have ex := Sml.ofW (exn_sz (iff_pos N.exn (by omega)))
    have ar := Sml.ofW (name_sz (iff_pos N.arg (by omega)))
    simp only [hk, ↓reduceIte, Int.reduceEq, s0, s1]
    exact .ofL (.cons (.c (by decide)) (.cons h0 (.cons (.c (by decide)) (.cons ex (.cons ar (.cons (.c (by decide)) (.cons h1 .nil)))))))
  ·have h0 := ih (tget t.ks 0) (by have := wt3 hl; omega) (kid_all hm (by omega)) (kid_all hi (by omega))
   have h1 := ih (tget t.ks 1) (by have := wt3 hl; omega) (kid_all hm (by omega)) (kid_all hi (by omega))
   have h2 := ih (tget t.ks 2) (by have := wt3 hl; omega) (kid_all hm (by omega)) (kid_all hi (by omega))
   have s0 := S 0 (by omega)
   have s1 := S 1 (by omega)
   have s2 := S 2 (by omega)
   simp only [hk, ↓reduceIte, Int.reduceEq, s0, s1, s2]
   exact .ofL (.cons (.c (by decide)) (.cons h0 (.cons (.c (by decide)) (.cons h1 (.cons (.c (by decide)) (.cons h2 .nil))))))
theorem sml_sx {t : AT} (h : allT nodeB t = true) (hi : allT rngB t = true) : Sml (sx t) := sx_sml _ t (Nat.le_refl _) h hi

theorem tail_len : ∀ l : List At, (flatL (tailA l)).length = 3 * l.length
 | [] => by rw [tailA, flatL_nil]; rfl
 | x :: xs => by
  rw [tailA, flatL_cons, flatL_cons, flatL_cons, flatS_atom, flatS_atom, flatS_atom, List.length_append, List.length_append, List.length_append, tail_len xs]
  simp only [List.length_cons, List.length_nil]
  omega
theorem eff_len (l : List At) : (flatL (effA l)).length ≤ 3 * l.length + 1 := by
 cases l with
 | nil => rw [effA, flatL_cons, flatS_atom, flatL_nil]; simp
 | cons x xs =>
  rw [effA, flatL_cons, flatL_cons, flatS_atom, flatS_atom, List.length_append, List.length_append, tail_len]
  simp only [List.length_cons, List.length_nil]
  omega
theorem effO_len {l : List At} {n : Nat} (h : l.length ≤ n) : (flatL (effA (ofA l))).length ≤ 3 * n + 1 := by
 have h1 := eff_len (ofA l)
 have h2 := Effect.of_le l
 omega
theorem ty_len : ∀ m : Nat, ∀ t : Rt.RT, Rt.wt t ≤ m → Rt.mayT t = true → Rt.allT (Rt.effB 100) t = true → (flatS (sxR t)).length ≤ 310 * Rt.wt t := by
 intro m
 induction m with
 | zero => intro t h; have := Rt.wt_pos t; omega
 | succ m ih =>
  intro t h hm he
  have he2 := he
  rw [Rt.allT_eq, Bool.and_eq_true] at he2
  have hel := effO_len (Rt.eff_iff.1 he2.1).1
  obtain ⟨hk, -⟩ := Rt.may_node hm
  have hp := Rt.wt_pos t
  rw [sxR_eq]
  unfold rhS inR
  rcases hk with ⟨hk, hl, -⟩ | ⟨hk, hl⟩ | ⟨hk, hl⟩
  ·rw [if_pos hk, flatS_atom]; simp only [List.length_cons, List.length_nil]; omega
  ·have h0 := ih (Rt.tget t.ks 0) (by have := Rt.wt1 hl; omega) (Rt.may_kid hm (by omega)) (Rt.allK_get _ (by omega) he2.2)
   have hw := Rt.wt1 hl
   rw [if_neg (by omega), if_neg (by omega), if_pos hk, kR_get (show 0 < t.ks.length by omega)]
   simp only [flatS_node, flatL_cons, flatL_nil, flatS_atom, List.length_append, List.length_cons, List.length_nil]
   omega
  ·have h0 := ih (Rt.tget t.ks 0) (by have := Rt.wt2 hl; omega) (Rt.may_kid hm (by omega)) (Rt.allK_get _ (by omega) he2.2)
   have h1 := ih (Rt.tget t.ks 1) (by have := Rt.wt2 hl; omega) (Rt.may_kid hm (by omega)) (Rt.allK_get _ (by omega) he2.2)
   have hw := Rt.wt2 hl
   rcases hk with hk | hk
   ·rw [if_neg (by omega), if_pos hk, kR_get (show 0 < t.ks.length by omega), kR_get (show 1 < t.ks.length by omega)]
    simp only [flatS_node, flatL_cons, flatL_nil, flatS_atom, List.length_append, List.length_cons, List.length_nil]
    omega
   ·rw [if_neg (by omega), if_neg (by omega), if_neg (by omega), kR_get (show 0 < t.ks.length by omega), kR_get (show 1 < t.ks.length by omega)]
    simp only [flatS_node, flatL_cons, flatL_nil, flatL_append, flatS_atom, List.length_append, List.length_cons, List.length_nil]
    omega
theorem tyS_len {t : Rt.RT} (hm : Rt.mayT t = true) (hg : Rt.greatT t = false) : (flatS (sxR t)).length ≤ 31000 := by
 have h := Rt.small_eff hg
 have := ty_len _ t (Nat.le_refl _) hm h.2
 omega
set_option maxHeartbeats 1600000 in
theorem sx_len : ∀ m : Nat, ∀ t : AT, wt t ≤ m → allT nodeB t = true → allT smallB t = true → (flatS (sx t)).length ≤ 63000 * wt t := by
 intro m
 induction m with
 | zero => intro t h; have := Aterm.wt_pos t; omega
 | succ m ih =>
  intro t h hm hs
  have hlg := Aterm.long_no (h := t.h) (by have := top_all hs; unfold smallB at this; simpa using this)
  have hel := effO_len (Effect.great_no hlg.2.1).1
  have hrl : (flatL (rhosA t.h.rhos)).length = t.h.rhos.length + 2 := by rw [rhos_flat]; unfold rhosW; simp
  have hr50 := hlg.1.2.2.2
  have hat : (flatL (atA t.h.rho)).length = 2 := by rw [at_flat]; rfl
  have N := nd_of (top_all hm)
  have S := fun i (hi : i < t.ks.length) => kS_get hi
  have hp := Aterm.wt_pos t
  rw [sx_eq]
  unfold sxH inS
  rcases kinds hm with ⟨hk, hl⟩ | ⟨hk, hl⟩ | ⟨hk, hl⟩ | ⟨hk, hl⟩
  ·rcases hk with hk | hk | hk
   all_goals
    simp only [hk, ↓reduceIte, Int.reduceEq, flatS_node, flatL_cons, flatL_nil, flatL_append, flatS_atom, List.length_append, List.length_cons, List.length_nil, hrl, hat]
    omega
  ·have h0 := ih (tget t.ks 0) (by have := wt1 hl; omega) (kid_all hm (by omega)) (kid_all hs (by omega))
   have s0 := S 0 (by omega)
   have hw := wt1 hl
   rcases hk with hk | hk | hk | hk | hk | hk | hk
   case inr.inr.inr.inr.inl =>
    have ty := tyS_len (iff_pos N.ty (by omega)) hlg.2.2.1
    simp only [hk, s0, ↓reduceIte, Int.reduceEq, flatS_node, flatL_cons, flatL_nil, flatL_append, flatS_atom, List.length_append, List.length_cons, List.length_nil, hrl, hat]
    omega
   case inr.inr.inr.inr.inr.inl =>
    have ty := tyS_len (iff_pos N.ty (by omega)) hlg.2.2.1
    simp only [hk, s0, ↓reduceIte, Int.reduceEq, flatS_node, flatL_cons, flatL_nil, flatL_append, flatS_atom, List.length_append, List.length_cons, List.length_nil, hrl, hat]
    omega
   all_goals
    simp only [hk, s0, ↓reduceIte, Int.reduceEq, flatS_node, flatL_cons, flatL_nil, flatL_append, flatS_atom, List.length_append, List.length_cons, List.length_nil, hrl, hat]
    omega
  ·have h0 := ih (tget t.ks 0) (by have := wt2 hl; omega) (kid_all hm (by omega)) (kid_all hs (by omega))
   have h1 := ih (tget t.ks 1) (by have := wt2 hl; omega) (kid_all hm (by omega)) (kid_all hs (by omega))
   have s0 := S 0 (by omega)
   have s1 := S 1 (by omega)
   have hw := wt2 hl
   rcases hk with hk | hk | hk | hk | hk | hk | hk
   case inr.inr.inr.inr.inr.inl =>
    have ty := tyS_len (iff_pos N.ty (by omega)) hlg.2.2.1
    have re := tyS_len (iff_pos N.re hk) hlg.2.2.2
    simp only [hk, s0, s1, ↓reduceIte, Int.reduceEq, flatS_node, flatL_cons, flatL_nil, flatL_append, flatS_atom, List.length_append, List.length_cons, List.length_nil, hrl, hat]
    omega
   all_goals
    simp only [hk, s0, s1, ↓reduceIte, Int.reduceEq, flatS_node, flatL_cons, flatL_nil, flatL_append, flatS_atom, List.length_append, List.length_cons, List.length_nil, hrl, hat]
    omega
  ·have h0 := ih (tget t.ks 0) (by have := wt3 hl; omega) (kid_all hm (by omega)) (kid_all hs (by omega))
   have h1 := ih (tget t.ks 1) (by have := wt3 hl; omega) (kid_all hm (by omega)) (kid_all hs (by omega))
   have h2 := ih (tget t.ks 2) (by have := wt3 hl; omega) (kid_all hm (by omega)) (kid_all hs (by omega))
   have s0 := S 0 (by omega)
   have s1 := S 1 (by omega)
   have s2 := S 2 (by omega)
   have hw := wt3 hl
   simp only [hk, s0, s1, s2, ↓reduceIte, Int.reduceEq, flatS_node, flatL_cons, flatL_nil, flatL_append, flatS_atom, List.length_append, List.length_cons, List.length_nil, hrl, hat]
   omega
theorem text_small {t : AT} (hm : allT nodeB t = true) (hs : allT smallB t = true) (hi : allT rngB t = true) (hw : wt t ≤ 500) : (jb (partsT t)).size ≤ 661500000 ∧ (flatS (sx t)).length ≤ 31500000 := by
 have hl := sx_len _ t (Nat.le_refl _) hm hs
 have sm := sml_sx hm hi
 have hsh : Rt.Short 20 (flatS (sx t)) := fun w hw => by
  rcases (flat_words _).1 _ (Nat.le_refl _) w hw with rfl | rfl | h
  ·decide
  ·decide
  ·exact sm w h
 have := Rt.jb_size _ hsh
 rw [text_flat hm]
 have h2 : 63000 * wt t ≤ 63000 * 500 := Nat.mul_le_mul_left _ hw
 omega
end Disp
end Go.Proofs.YtkfkpjngiffamaaGreatDoor
namespace Go.Proofs.YtkfkpjngiffamaaGreatDoor
open Go.RowKit
set_option linter.unusedVariables false
set_option linter.unusedSimpArgs false
namespace Disp
open Effect (At AtOk AtsAt Rd RdI ofA ret_i64 ret_bool lt_of_block heap_alloc_new own_slice digs NumLaid textE)
open Aterm (AT Hd V AtIs HdIs Kids acells tget wt wts nodeB allT allK smallB Box box_of at_load exec_at range_below of_world atInfo)
open Rt (box_new below_then kw wAt wBang)
open Types (jb wInt wOpen wShut wStar wRef wArrow)
open Words (KwLaid)
open Types (jb_list)

def textS (t : AT) : ByteArray := if allT nodeB t = true then jb (partsT t) else ⟨#[]⟩
def errE (t : AT) : Int := if allT nodeB t = true then 0 else 1
def TermEnd (t : AT) (w : World) (e : Ending) (w' : World) : Prop := e = .returned (.tuple #[.string (textS t), .int .i64 (errE t)]) ∧ Below w.heap.size w w'
theorem may_small {t : AT} (h : wt t ≤ 500) : Aterm.mayT t = allT nodeB t := by unfold Aterm.mayT; rw [decide_eq_true (by omega), Bool.true_and]
theorem text_no {t : AT} (h : allT nodeB t = false) : textS t = ⟨#[]⟩ ∧ errE t = 1 := by unfold textS errE; rw [h]; exact ⟨rfl, rfl⟩
theorem text_yes {t : AT} (h : allT nodeB t = true) : textS t = jb (partsT t) ∧ errE t = 0 := by unfold textS errE; rw [h]; exact ⟨rfl, rfl⟩
set_option maxRecDepth 10000 in
set_option maxHeartbeats 12800000 in
theorem text_walk (t : AT) (h : Hd) (v : V) (l : Nat) (w : World) (hT : AtIs w h v l t) (hw : wt t ≤ 500) (hs : allT smallB t = true) (hkw : KwLaid w) (hn : NumLaid w) (hsg : SgLaid w) :
  Calls Tryz.prog 13 #[.agg #[.int .u8 h.h.k, .int .u8 h.h.op, .int .i64 h.h.pl, .int .i64 h.h.n, .string h.h.name, .string h.h.arg, .string h.h.exn, .int .i64 h.rho, .slice v.ra h.rhos.length v.rc, .slice v.ea h.e.length v.ec, .int .u8 h.ty.h.k, .int .i64 h.ty.h.r, .slice v.tea h.ty.h.e.length v.tec, .slice v.tka h.ty.ks.length v.tkc, .int .u8 h.re.h.k, .int .i64 h.re.h.r, .slice v.sea h.re.h.e.length v.sec, .slice v.ska h.re.ks.length v.skc, .slice v.ka l v.kc]] w (TermEnd t w) := by
 have hmay := fun (W : World) (hb : Below w.heap.size w W) => Aterm.may_walk t h v l W (hT.below hb) (by omega) hs (hkw.below hb)
 rw [may_small hw] at hmay
 have hrng := at_rng hT
 have HM := Lib.hid hmay; have HT := Lib.hid hT; have HN := Lib.hid hn; have HG := Lib.hid hsg; have HW := Lib.hid hw; have HS := Lib.hid hs; have HR := Lib.hid hrng
 clear hmay hT hn hw hs hkw hrng hsg
 go_enter Tryz.func13, Tryz.ntmps13
 go_upto_region 1 with (fail)
 refine of_world (F := fun V => Below w.heap.size w V ∧ V.rangeAt w.heap.size 0 (acells h v l)) ⟨box_new _, Aterm.row_new rfl⟩ ?_
 rintro W0 ⟨hb0, hr0⟩
 generalize hN1 : w.heap.size = N1 at hr0 ⊢
 have HC0 := Lib.hid hb0; have HR0 := Lib.hid hr0
 clear hb0 hr0 hN1
 go_wp2_with (refine at_load rfl _ rfl N1 0 rfl HR0.out ?_)
 refine (HM.out W0 HC0.out).mono ?_
 rintro en w1 ⟨rfl, hb1⟩
 have HB1 := Lib.hid (below_then HC0.out hb1 HC0.out.size); have HR1 := Lib.hid (range_below HR0.out hb1)
 clear hb1 HC0 HR0
 cases hmt : allT nodeB t
 ·obtain ⟨e1, e2⟩ := text_no hmt
  have HE := Lib.hid (And.intro e1 e2)
  clear hmt e1 e2
  go_wp2_with (fail)
  refine bodyPost_ret (v := .tuple #[.string ⟨#[]⟩, .int .i64 1]) (by simp [results, Tryz.results13, go_sem]) rfl ?_
  exact ⟨by rw [HE.out.1, HE.out.2], HB1.out⟩
 ·obtain ⟨e1, e2⟩ := text_yes hmt
  have hwl := parts_le hmt HS.out
  have hpos : 1 ≤ (partsT t).length := (parts_len _ t (Nat.le_refl _) hmt (few_of HS.out)).1
  have hwt := HW.out
  have hbd := (text_small hmt HS.out HR.out hwt).1
  have hcall := fun W hA hb => term_all w1 w1.heap.size (Nat.le_refl _) (HN.out.below HB1.out) (HG.out.below HB1.out) (wt t) t h v l [] W (Nat.le_refl _) hmt HS.out (HT.out.below HB1.out) hb hA (by rw [List.length_nil]; omega)
  have hA0 : WAt w1.heap.size [] (w1.alloc (.cells #[.slice none 0 0] 54)) := ⟨_, heap_alloc_new w1 _, World.ownsRow_nil _ _ _ _⟩
  have hle : (partsT t).length ≤ 1000000 := by omega
  have hrr := fun (W : World) (hb : Below w1.heap.size w1 W) => range_below HR1.out hb
  have HE := Lib.hid (And.intro e1 e2); have HC := Lib.hid hcall; have HA0 := Lib.hid hA0; have HLE := Lib.hid (And.intro hpos (And.intro hle hbd))
  have HRR := Lib.hid (hrr _ (box_new (.cells #[.slice none 0 0] 54)))
  clear hmt e1 e2 hwl hpos hwt hcall hA0 hle hbd hrr
  go_wp2_with (refine at_load rfl _ rfl N1 0 rfl HRR.out ?_)
  refine (HC.out _ HA0.out (box_new _)).mono ?_
  rintro en w5 ⟨rfl, hA5, hW5⟩
  rw [List.nil_append] at hA5
  obtain ⟨vv, hv5, hown⟩ := hA5
  obtain ⟨va, vc, hvv, _, hcap⟩ := own_slice hown
  subst hvv
  obtain ⟨g, rfl, hg⟩ := Rt.own_at hown (by have := HLE.out.1; omega)
  have e0 : w5.cell? ⟨w1.heap.size, 0, none⟩ = some (.slice (some ⟨g, 0, none⟩) (partsT t).length vc) := by simp [World.cell?, hv5]
  have el := lt_of_block hv5
  have hcells : ∀ (j : Nat) x, (partsT t)[j]? = some x → w5.cell? ⟨g, 0 + j, none⟩ = some (.string x) := by
   intro j x hx
   have := hown.cells (g := g) rfl j (.string x) (by rw [List.getElem?_map, hx]; rfl)
   rw [Addr.add_lit] at this
   exact this
  have hgl := (hown.lt g rfl).2
  have hle := HLE.out.2.1
  have hbd := HLE.out.2.2
  have hjoin := Tryz.strings_Join g 0 vc (partsT t) ⟨#[32]⟩ w5 hcells hgl (by omega) hcap (by have e : (jb (partsT t)).size = (Lib.join ((partsT t).map (·.data.toList)) [32]).length := (by rw [← jb_list]; rfl); rw [e] at hbd; show (Lib.join _ [32]).length ≤ _; omega)
  have hB5 : Below w.heap.size w w5 := Rt.below_then HB1.out ⟨hW5.os, hW5.tape, hW5.output, by have := hW5.size; simp at this; omega, fun k hk => (hW5.low k (by simp; omega) hk).trans (Below.heap_alloc _ _ _ hk)⟩ HB1.out.size
  have HJ := Lib.hid hjoin; have HB5 := Lib.hid hB5
  clear hv5 hown hcells hgl hbd hle hjoin hW5 hcap hg hB5
  generalize (partsT t).length = L at *
  go_wp2_with (fail)
  refine HJ.out.mono ?_
  rintro en w6 ⟨rfl, hb6⟩
  have HB6 := Lib.hid (below_then HB5.out hb6 HB5.out.size)
  clear hb6 e0 el
  go_wp2_with (fail)
  refine bodyPost_ret (v := .tuple #[.string ⟨(Lib.join (List.map (fun x => x.data.toList) (partsT t)) [32]).toArray⟩, .int .i64 0]) (by simp [results, Tryz.results13, go_sem]) rfl ?_
  exact ⟨by rw [HE.out.1, HE.out.2]; rfl, HB6.out⟩
end Disp
end Go.Proofs.YtkfkpjngiffamaaGreatDoor
namespace Go.Proofs.YtkfkpjngiffamaaGreatDoor
open Go.RowKit Go.ChangeShapes
namespace Words

theorem cells_of_strs {H : Type} {enc : TypeId × Value → H} {P : Program} {w : World} {base : Nat} {sp : Nat → Bool} {held : Bool} {fuel : Nat} {t e : TypeId} {n : Nat} {cs : List Value} {zs : List (List UInt8)} {p : List MemPlace}
  (ht : P.underlying t = some (.array n e)) (he : P.underlying e = some .string) (hce : P.cellsOf e = 1) (hct : P.cellsOf t = n)
  (h : DataW.trod enc P w base sp held fuel t cs = some (.agg (zs.map fun z => .lit (.string z)), p)) : cs = zs.map fun z => Value.string ⟨z.toArray⟩ := by
 cases fuel with
 | zero => simp [DataW.trod] at h
 | succ fuel =>
  simp only [DataW.trod, ht, hce, hct, Nat.mul_one] at h
  split at h
  ·rename_i hl
   obtain ⟨xs, hm, hx⟩ := Option.map_eq_some_iff.1 h
   have hxs : xs.map (·.1) = zs.map fun z => (DataW.lit (.string z) : DataW H) := by
    have := congrArg Prod.fst hx
    simpa using this
   have hxl : xs.length = n := by simpa using Lib.mapM_length hm
   have hzl : zs.length = n := by
    have := congrArg List.length hxs
    simp at this
    omega
   apply List.ext_getElem?
   intro i
   by_cases hi : i < n
   ·obtain ⟨b, hb, hf⟩ := Lib.mapM_at hm i i (by simp [hi])
    obtain ⟨z, hc, rfl, _⟩ := DataW.trod_string he hf
    have h1 : cs[i]? = some (.string z) := by
     have := congrArg (·[0]?) hc
     simpa [List.getElem?_take, List.getElem?_drop] using this
    have h2 : (xs.map (·.1))[i]? = some (DataW.lit (.string z.data.toList) : DataW H) := by simp [hb]
    rw [hxs] at h2
    simp only [List.getElem?_map, Option.map_eq_some_iff, DataW.lit.injEq, Lit.string.injEq] at h2
    obtain ⟨z', hz', e⟩ := h2
    simp [h1, hz', e]
   ·rw [List.getElem?_eq_none (by omega), List.getElem?_eq_none (by simp; omega)]
  ·cases h

theorem gKw : Tryz.prog.globalNamed "enclave/words.keywords" = some 5 := by kernel_rfl
theorem tKw : (Tryz.prog.globals[5]?).map (·.type) = some 177 := by kernel_rfl
theorem kwLaid_of {W : World} {r : List (String × DataW Unit)} (h : laidMet Tryz.prog (("enclave/words.keywords", Rows.laid_enclave_words_keywords) :: r) W) : KwLaid W := by
 obtain ⟨ps, ⟨g', t', cs, fuel, p, q, hg', ht', hvar, hd, _, _⟩, _⟩ := h
 obtain rfl := Option.some.inj (gKw.symm.trans hg')
 obtain rfl := Option.some.inj (tKw.symm.trans ht')
 have hcs := cells_of_strs (zs := kwTexts) Tryz.underlying177 Tryz.underlying9 (by kernel_rfl) (by kernel_rfl) hd
 intro k hk
 have := World.var?_cell gKw hvar k
 obtain ⟨l⟩ := cs
 simp only at hcs
 subst hcs
 have hk' : k < kwTexts.length := hk
 rw [this]
 simp [kwT, List.getD, hk']

end Words
end Go.Proofs.YtkfkpjngiffamaaGreatDoor
namespace Go.Proofs.YtkfkpjngiffamaaGreatDoor
open Go.RowKit Go.ChangeShapes
set_option linter.unusedVariables false
namespace Disp
open Effect (NumLaid gPow)
open Words (KwLaid kwLaid_of cells_of_strs)

def FldLaid (w : World) : Prop := Lib.TabIs Tryz.prog w "strings.asciiSpace" .u8 Lib.asciiSpaceTab
theorem gFld : Tryz.prog.globalNamed "strings.asciiSpace" = some 0 := by kernel_rfl
theorem FldLaid.below {w W : World} (h : FldLaid w) (hb : Below w.heap.size w W) : FldLaid W := Go.Joins.tab_stays gFld h hb (Nat.le_refl _)
set_option maxRecDepth 100000 in
theorem fld_of {W : World} {r : List (String × DataW Unit)} (h : laidMet Tryz.prog (("strings.asciiSpace", Rows.laid_strings_asciiSpace) :: r) W) : FldLaid W :=
 Lib.tabIs_of_head (zs := Lib.asciiSpaceTab) (k := .u8) gFld (t := 68) (by kernel_rfl) Tryz.underlying68 Tryz.underlying5 (by kernel_rfl) (by kernel_rfl) h
theorem num_of {W : World} {r : List (String × DataW Unit)} (h : laidMet Tryz.prog (("internal/strconv.uint64pow10", Rows.laid_internal_strconv_uint64pow10) :: r) W) : NumLaid W :=
 Lib.tabIs_of_head (zs := Lib.pow10Tab) (k := .u64) gPow (t := 162) (by kernel_rfl) Tryz.underlying162 Tryz.underlying143 (by kernel_rfl) (by kernel_rfl) h
def sgTexts : List (List UInt8) := [[], [43], [45], [42], [60], [61]]
theorem gSg : Tryz.prog.globalNamed "enclave/display.signs" = some 2 := by kernel_rfl
theorem tSg : (Tryz.prog.globals[2]?).map (·.type) = some 102 := by kernel_rfl
theorem sg_of {W : World} {r : List (String × DataW Unit)} (h : laidMet Tryz.prog (("enclave/display.signs", Rows.laid_enclave_display_signs) :: r) W) : SgLaid W := by
 obtain ⟨ps, ⟨g', t', cs, fuel, p, q, hg', ht', hvar, hd, _, _⟩, _⟩ := h
 obtain rfl := Option.some.inj (gSg.symm.trans hg')
 obtain rfl := Option.some.inj (tSg.symm.trans ht')
 have hcs := cells_of_strs (zs := sgTexts) Tryz.underlying102 Tryz.underlying9 (by kernel_rfl) (by kernel_rfl) hd
 intro k h1 h2
 have := World.var?_cell gSg hvar k
 obtain ⟨l⟩ := cs
 simp only at hcs
 subst hcs
 rw [this]
 have hh : k = 1 ∨ k = 2 ∨ k = 3 ∨ k = 4 ∨ k = 5 := by omega
 rcases hh with rfl | rfl | rfl | rfl | rfl <;> rfl
structure Laid (w : World) : Prop where
 num : NumLaid w
 kw : KwLaid w
 sg : SgLaid w
theorem Laid.below {w W : World} (h : Laid w) (hb : Below w.heap.size w W) : Laid W := ⟨h.num.below hb, h.kw.below hb, h.sg.below hb⟩
theorem laid5 {W : World} {a b : String × DataW Unit} {r : List (String × DataW Unit)} (h : laidMet Tryz.prog (a :: b :: ("internal/strconv.uint64pow10", Rows.laid_internal_strconv_uint64pow10) :: ("enclave/words.keywords", Rows.laid_enclave_words_keywords) :: ("enclave/display.signs", Rows.laid_enclave_display_signs) :: r) W) : Laid W :=
 ⟨num_of h.tail.tail, kwLaid_of h.tail.tail.tail, sg_of h.tail.tail.tail.tail⟩
theorem laid7 {W : World} {a b c : String × DataW Unit} {r : List (String × DataW Unit)} (h : laidMet Tryz.prog (a :: b :: ("internal/strconv.uint64pow10", Rows.laid_internal_strconv_uint64pow10) :: c :: ("strings.asciiSpace", Rows.laid_strings_asciiSpace) :: ("enclave/words.keywords", Rows.laid_enclave_words_keywords) :: ("enclave/display.signs", Rows.laid_enclave_display_signs) :: r) W) : Laid W ∧ FldLaid W :=
 ⟨⟨num_of h.tail.tail, kwLaid_of h.tail.tail.tail.tail.tail, sg_of h.tail.tail.tail.tail.tail.tail⟩, fld_of h.tail.tail.tail.tail⟩
end Disp
end Go.Proofs.YtkfkpjngiffamaaGreatDoor
namespace Go.Proofs.YtkfkpjngiffamaaGreatDoor
open Go.RowKit
set_option linter.unusedVariables false
set_option linter.unusedSimpArgs false
namespace DispEx
open Aterm
open Effect (RdI nget nget_at nget_mem ret_bool ret_i64 lt_of_block heap_alloc_new ofA)
open Rt (box_new box_at below_then)

def exH (k rho : Int) (n : Int := 0) : Hd := ⟨⟨k, 0, 0, n, ⟨#[]⟩, ⟨#[]⟩, ⟨#[]⟩⟩, rho, [], [], .node ⟨0, 0, []⟩ [], .node ⟨0, 0, []⟩ []⟩
def exV (p : Option Addr) (c : Nat) : V := ⟨none, 0, none, 0, none, 0, none, 0, none, 0, none, 0, p, c⟩
def exN : AT := .node (exH 1 0 2) []
def exP : AT := .node (exH 3 1) [exN, exN]
def exF : AT := .node (exH 4 0) [exP]
def exT : AT := .node (exH 17 1) [exF]
theorem wt_N : wt exN = 1 := by unfold exN; rw [wt_ks]; simp only [AT.ks]; rw [wts_nil]
theorem wt_P : wt exP = 3 := by unfold exP; rw [wt_ks]; simp only [AT.ks]; rw [wts_cons, wts_cons, wts_nil, wt_N]
theorem wt_F : wt exF = 4 := by unfold exF; rw [wt_ks]; simp only [AT.ks]; rw [wts_cons, wts_nil, wt_P]
theorem wt_T : wt exT = 5 := by unfold exT; rw [wt_ks]; simp only [AT.ks]; rw [wts_cons, wts_nil, wt_F]
theorem all_ex (B : Hd → Nat → Bool) (h1 : B (exH 1 0 2) 0 = true) (h2 : B (exH 3 1) 2 = true) (h3 : B (exH 4 0) 1 = true) (h4 : B (exH 17 1) 1 = true) : allT B exT = true := by
 have n : allT B exN = true := by unfold exN; rw [allT_eq]; simp only [AT.h, AT.ks, List.length_nil]; rw [h1, allK_nil]; rfl
 have p : allT B exP = true := by unfold exP; rw [allT_eq]; simp only [AT.h, AT.ks, List.length_cons, List.length_nil]; rw [show B (exH 3 1) (0 + 1 + 1) = true from h2, allK_cons, allK_cons, allK_nil, n]; rfl
 have f : allT B exF = true := by unfold exF; rw [allT_eq]; simp only [AT.h, AT.ks, List.length_cons, List.length_nil]; rw [show B (exH 4 0) (0 + 1) = true from h3, allK_cons, allK_nil, p]; rfl
 unfold exT; rw [allT_eq]; simp only [AT.h, AT.ks, List.length_cons, List.length_nil]; rw [show B (exH 17 1) (0 + 1) = true from h4, allK_cons, allK_nil, f]; rfl
theorem may_ex : mayT exT = true := by
 unfold mayT
 rw [wt_T, all_ex nodeB (by decide) (by decide) (by decide) (by decide)]
 rfl
theorem small_ex : allT smallB exT = true := all_ex smallB (by decide) (by decide) (by decide) (by decide)
theorem ex_is {w : World} {k rho n : Int} (hn : 0 ≤ n ∧ n ≤ 255) {p : Option Addr} {c : Nat} {ts : List AT} (hk : 0 ≤ k ∧ k ≤ 255) (hr : 0 ≤ rho ∧ rho ≤ 1000) (hc : ts.length ≤ c ∧ c ≤ maxLen) (hks : Aterm.Kids w p ts) : AtIs w (exH k rho n) (exV p c) ts.length (.node (exH k rho n) ts) :=
 ⟨rfl, rfl, ⟨⟨hk, by show (0 : Int) ≤ 0 ∧ (0 : Int) ≤ 255; omega, by show (-9223372036854775808 : Int) ≤ 0 ∧ (0 : Int) ≤ 9223372036854775807; omega, by show (-9223372036854775808 : Int) ≤ n ∧ n ≤ 9223372036854775807; omega, by show 0 ≤ maxLen; exact Nat.zero_le _, by show 0 ≤ maxLen; exact Nat.zero_le _, by show 0 ≤ maxLen; exact Nat.zero_le _⟩,
  by show -9223372036854775808 ≤ rho ∧ rho ≤ 9223372036854775807; omega, ⟨rfl, .inl rfl, fun x hx => by cases hx⟩, ⟨Nat.le_refl _, by show 0 ≤ maxLen; exact Nat.zero_le _⟩, zeroEff w, (fun x hx => by cases hx), zeroRt w, zeroRt w⟩, hc, hks⟩
theorem at_store2 {ops : Array Oper} {rest : List Oper} {op : Oper} {a : Act} {w0 : World} {Q : Exit → Act → World → Prop} (hgd : op.guard = none) (x y : Operand) (ho : op.op = .store 31 x y) (c : Array Value) (hc : c.size = 19)
  (h : Hd) (v : V) (l : Nat) (N : Nat) (hN : N = w0.heap.size) (hx : a.eval x = .pointer (some ⟨N, 0, none⟩)) (hy : a.eval y = .agg #[.int .u8 h.h.k, .int .u8 h.h.op, .int .i64 h.h.pl, .int .i64 h.h.n, .string h.h.name, .string h.h.arg, .string h.h.exn, .int .i64 h.rho, .slice v.ra h.rhos.length v.rc, .slice v.ea h.e.length v.ec, .int .u8 h.ty.h.k, .int .i64 h.ty.h.r, .slice v.tea h.ty.h.e.length v.tec, .slice v.tka h.ty.ks.length v.tkc, .int .u8 h.re.h.k, .int .i64 h.re.h.r, .slice v.sea h.re.h.e.length v.sec, .slice v.ska h.re.ks.length v.skc, .slice v.ka l v.kc])
  (k : wpList Tryz.prog ops Q rest (a.put op.dst undef) (w0.alloc (.cells #[.int .u8 h.h.k, .int .u8 h.h.op, .int .i64 h.h.pl, .int .i64 h.h.n, .string h.h.name, .string h.h.arg, .string h.h.exn, .int .i64 h.rho, .slice v.ra h.rhos.length v.rc, .slice v.ea h.e.length v.ec, .int .u8 h.ty.h.k, .int .i64 h.ty.h.r, .slice v.tea h.ty.h.e.length v.tec, .slice v.tka h.ty.ks.length v.tkc, .int .u8 h.re.h.k, .int .i64 h.re.h.r, .slice v.sea h.re.h.e.length v.sec, .slice v.ska h.re.ks.length v.skc, .slice v.ka l v.kc] 31))) : wpList Tryz.prog ops Q (op :: rest) a (w0.alloc (.cells c 31)) := by
 subst hN
 exact at_store hgd x y ho c hc h v l hx hy k
theorem of_world {P : Program} {c : Code} {Q : Exit → Act → World → Prop} {a : Act} {W : World} {F : World → Prop} (hf : F W) (h : ∀ W2, F W2 → Code.wp P c Q a W2) : Code.wp P c Q a W := h W hf
theorem kids_laid {W : World} {g : Nat} {ts : List AT} (h : ∀ i, i < ts.length → ∃ v, AtIs W (tget ts i).h v (tget ts i).ks.length (tget ts i) ∧ W.rangeAt g (i * 19) (acells (tget ts i).h v (tget ts i).ks.length)) : Aterm.Kids W (some ⟨g, 0, none⟩) ts := by
 have h' : ∀ i, ∃ v, i < ts.length → AtIs W (tget ts i).h v (tget ts i).ks.length (tget ts i) ∧ W.rangeAt g (i * 19) (acells (tget ts i).h v (tget ts i).ks.length) := fun i => by
  by_cases hi : i < ts.length
  ·obtain ⟨v, hv⟩ := h i hi
   exact ⟨v, fun _ => hv⟩
  ·exact ⟨v0, fun hn => absurd hn hi⟩
 obtain ⟨F, hF⟩ := Classical.axiomOfChoice h'
 refine .atkids g 0 ts F (fun i hi => (hF i hi).1.ok) (fun i hi j x hx => ?_) (fun i hi => (hF i hi).1.cap) (fun i hi => (hF i hi).1.kids)
 have := (hF i hi).2 j x hx
 rw [Nat.zero_add]; exact this
theorem kids_new {w : World} {t : AT} {h : Hd} {v : V} {l : Nat} (hT : AtIs w h v l t) {ty : TypeId} {N : Nat} (hN : N = w.heap.size) : Aterm.Kids (w.alloc (.cells #[.int .u8 h.h.k, .int .u8 h.h.op, .int .i64 h.h.pl, .int .i64 h.h.n, .string h.h.name, .string h.h.arg, .string h.h.exn, .int .i64 h.rho, .slice v.ra h.rhos.length v.rc, .slice v.ea h.e.length v.ec, .int .u8 h.ty.h.k, .int .i64 h.ty.h.r, .slice v.tea h.ty.h.e.length v.tec, .slice v.tka h.ty.ks.length v.tkc, .int .u8 h.re.h.k, .int .i64 h.re.h.r, .slice v.sea h.re.h.e.length v.sec, .slice v.ska h.re.ks.length v.skc, .slice v.ka l v.kc] ty)) (some ⟨N, 0, none⟩) [t] := by
 have hT' := hT.below (box_new (w := w) (.cells #[.int .u8 h.h.k, .int .u8 h.h.op, .int .i64 h.h.pl, .int .i64 h.h.n, .string h.h.name, .string h.h.arg, .string h.h.exn, .int .i64 h.rho, .slice v.ra h.rhos.length v.rc, .slice v.ea h.e.length v.ec, .int .u8 h.ty.h.k, .int .i64 h.ty.h.r, .slice v.tea h.ty.h.e.length v.tec, .slice v.tka h.ty.ks.length v.tkc, .int .u8 h.re.h.k, .int .i64 h.re.h.r, .slice v.sea h.re.h.e.length v.sec, .slice v.ska h.re.ks.length v.skc, .slice v.ka l v.kc] ty))
 have hr := row_new (W := w) hN (h := h) (v := v) (l := l) (ty := ty)
 have e1 := hT.head
 have e2 := hT.len
 subst e1 e2
 refine kids_laid fun i hi => ?_
 have hi0 : i = 0 := by simp at hi; omega
 subst hi0
 exact ⟨v, hT', by rw [Nat.zero_mul]; exact hr⟩
theorem kids_twice {w : World} {ty : TypeId} {N : Nat} (hN : N = w.heap.size) : Aterm.Kids (w.alloc (.cells #[.int .u8 1, .int .u8 0, .int .i64 0, .int .i64 2, .string ⟨#[]⟩, .string ⟨#[]⟩, .string ⟨#[]⟩, .int .i64 0, .slice none 0 0, .slice none 0 0, .int .u8 0, .int .i64 0, .slice none 0 0, .slice none 0 0, .int .u8 0, .int .i64 0, .slice none 0 0, .slice none 0 0, .slice none 0 0, .int .u8 1, .int .u8 0, .int .i64 0, .int .i64 2, .string ⟨#[]⟩, .string ⟨#[]⟩, .string ⟨#[]⟩, .int .i64 0, .slice none 0 0, .slice none 0 0, .int .u8 0, .int .i64 0, .slice none 0 0, .slice none 0 0, .int .u8 0, .int .i64 0, .slice none 0 0, .slice none 0 0, .slice none 0 0] ty)) (some ⟨N, 0, none⟩) [exN, exN] := by
 subst hN
 refine kids_laid fun i hi => ?_
 have hg : tget [exN, exN] i = exN := by
  have : i = 0 ∨ i = 1 := by simp at hi; omega
  rcases this with rfl | rfl <;> rfl
 rw [hg]
 refine ⟨exV none 0, ex_is (n := 2) (ts := []) (by decide) (by decide) (by decide) ⟨Nat.le_refl _, Nat.zero_le _⟩ (.nokids _), ?_⟩
 intro j x hx
 have hj : j < 19 := by
  rcases Nat.lt_or_ge j 19 with h | h
  ·exact h
  ·rw [List.getElem?_eq_none (by simpa [acells] using h)] at hx; cases hx
 rw [World.cell?_alloc_mark, ← hx]
 have : i = 0 ∨ i = 1 := by simp at hi; omega
 rcases this with rfl | rfl
 all_goals
  have hj' : j = 0 ∨ j = 1 ∨ j = 2 ∨ j = 3 ∨ j = 4 ∨ j = 5 ∨ j = 6 ∨ j = 7 ∨ j = 8 ∨ j = 9 ∨ j = 10 ∨ j = 11 ∨ j = 12 ∨ j = 13 ∨ j = 14 ∨ j = 15 ∨ j = 16 ∨ j = 17 ∨ j = 18 := by omega
  rcases hj' with rfl | rfl | rfl | rfl | rfl | rfl | rfl | rfl | rfl | rfl | rfl | rfl | rfl | rfl | rfl | rfl | rfl | rfl | rfl <;> rfl
end DispEx
end Go.Proofs.YtkfkpjngiffamaaGreatDoor
namespace Go.Proofs.YtkfkpjngiffamaaGreatDoor
open Go.RowKit
set_option linter.unusedVariables false
set_option linter.unusedSimpArgs false
namespace Disp
open DispEx
open Aterm (AT Hd V AtIs acells at_load exec_at range_below at_store row_new nodeB allT smallB wt tget)
open Effect (RdI nget nget_at nget_mem ret_bool ret_i64 lt_of_block heap_alloc_new ofA digs)
open Rt (box_new box_at below_then wAt)
open Types (wOpen wShut)

theorem dig1 : digs 1 = ⟨#[49]⟩ := by
 unfold digs Lib.itoa
 rw [if_neg (by decide), show (1 : Int).toNat = 1 from rfl, Lib.decDigits_one (by omega)]
 rfl
theorem dig2 : digs 2 = ⟨#[50]⟩ := by
 unfold digs Lib.itoa
 rw [if_neg (by decide), show (2 : Int).toNat = 2 from rfl, Lib.decDigits_one (by omega)]
 rfl
theorem parts_ex : partsT exT = [wOpen, wRegion, digs 1, wIn, wOpen, wFst, wOpen, digs 2, wComma, digs 2, wAt, digs 1, wShut, wShut, wShut] := by kernel_rfl
def exText : ByteArray := ⟨#[40, 32, 114, 101, 103, 105, 111, 110, 32, 49, 32, 105, 110, 32, 40, 32, 102, 115, 116, 32, 40, 32, 50, 32, 44, 32, 50, 32, 64, 32, 49, 32, 41, 32, 41, 32, 41]⟩
theorem text_ex : textS exT = exText ∧ errE exT = 0 := by
 have hm : allT nodeB exT = true := by
  have := may_ex
  unfold Aterm.mayT at this
  rw [Bool.and_eq_true] at this
  exact this.2
 obtain ⟨h1, h2⟩ := text_yes hm
 rw [h1, h2, parts_ex, dig1, dig2]
 exact ⟨by kernel_rfl, rfl⟩
theorem exText_eq : (exText.toList == [40, 32, 114, 101, 103, 105, 111, 110, 32, 49, 32, 105, 110, 32, 40, 32, 102, 115, 116, 32, 40, 32, 50, 32, 44, 32, 50, 32, 64, 32, 49, 32, 41, 32, 41, 32, 41]) = true := by
 rw [Lib.toList_data]
 simp [exText]
set_option maxRecDepth 100000 in
set_option maxHeartbeats 12800000 in
theorem awake_walk (w : World) (hla : Laid w) : Calls Tryz.prog 8 #[] w fun e w' => e = .returned (.bool true) ∧ Below w.heap.size w w' := by
 have HLA := Lib.hid hla
 clear hla
 go_enter Tryz.func8, Tryz.ntmps8
 go_upto_region 2 with (refine at_store rfl _ _ rfl _ rfl (exH 1 0 2) (exV none 0) 0 rfl rfl ?_)
 obtain ⟨W1, hW1⟩ : ∃ W1, W1 = w.alloc (.cells #[.int .u8 (exH 1 0 2).h.k, .int .u8 (exH 1 0 2).h.op, .int .i64 (exH 1 0 2).h.pl, .int .i64 (exH 1 0 2).h.n, .string (exH 1 0 2).h.name, .string (exH 1 0 2).h.arg, .string (exH 1 0 2).h.exn, .int .i64 (exH 1 0 2).rho, .slice (exV none 0).ra (exH 1 0 2).rhos.length (exV none 0).rc, .slice (exV none 0).ea (exH 1 0 2).e.length (exV none 0).ec, .int .u8 (exH 1 0 2).ty.h.k, .int .i64 (exH 1 0 2).ty.h.r, .slice (exV none 0).tea (exH 1 0 2).ty.h.e.length (exV none 0).tec, .slice (exV none 0).tka (exH 1 0 2).ty.ks.length (exV none 0).tkc, .int .u8 (exH 1 0 2).re.h.k, .int .i64 (exH 1 0 2).re.h.r, .slice (exV none 0).sea (exH 1 0 2).re.h.e.length (exV none 0).sec, .slice (exV none 0).ska (exH 1 0 2).re.ks.length (exV none 0).skc, .slice (exV none 0).ka 0 (exV none 0).kc] 31) := ⟨_, rfl⟩
 have hr1 : W1.rangeAt w.heap.size 0 (acells (exH 1 0 2) (exV none 0) 0) := by rw [hW1]; exact row_new rfl
 have hb1 : Below w.heap.size w W1 := by rw [hW1]; exact box_new _
 rw [← hW1]
 have HR1 := Lib.hid hr1; have HB1 := Lib.hid hb1
 clear hW1 hr1 hb1
 generalize hN1 : w.heap.size = N1 at HR1 ⊢
 have HN1 := Lib.hid hN1
 clear hN1
 go_upto_region 3 with (first | refine at_load rfl _ rfl N1 0 rfl HR1.out ?_ | refine at_store2 rfl _ _ rfl _ rfl (exH 3 1) (exV (some ⟨W1.heap.size, 0, none⟩) 2) 2 _ (by simp) rfl rfl ?_)
 refine of_world (F := fun V => Below W1.heap.size W1 V ∧ AtIs V (exH 3 1) (exV (some ⟨W1.heap.size, 0, none⟩) 2) 2 exP ∧ V.rangeAt (W1.heap.size + 1) 0 (acells (exH 3 1) (exV (some ⟨W1.heap.size, 0, none⟩) 2) 2))
  ⟨(box_new _).trans ((box_new _).mono (by simp)), (ex_is (n := 0) (by decide) (k := 3) (rho := 1) (p := some ⟨W1.heap.size, 0, none⟩) (c := 2) (ts := [exN, exN]) (by decide) (by decide) ⟨Nat.le_refl _, by unfold maxLen; show 2 ≤ _; omega⟩ (kids_twice rfl)).below (box_new _), row_new (by simp)⟩ ?_
 rintro W2 ⟨hb2, hj2, hr2⟩
 have HR2 := Lib.hid hr2; have HJ2 := Lib.hid hj2; have HB2 := Lib.hid (below_then HB1.out hb2 HB1.out.size)
 clear hr2 hj2 hb2
 generalize hN2 : W1.heap.size + 1 = N2 at HR2 ⊢
 clear hN2
 go_upto_region 4 with (first | refine at_load rfl _ rfl N2 0 rfl HR2.out ?_ | refine at_store2 rfl _ _ rfl _ rfl (exH 4 0) (exV (some ⟨W2.heap.size, 0, none⟩) 1) 1 _ (by simp) rfl rfl ?_)
 refine of_world (F := fun V => Below W2.heap.size W2 V ∧ AtIs V (exH 4 0) (exV (some ⟨W2.heap.size, 0, none⟩) 1) 1 exF ∧ V.rangeAt (W2.heap.size + 1) 0 (acells (exH 4 0) (exV (some ⟨W2.heap.size, 0, none⟩) 1) 1))
  ⟨(box_new _).trans ((box_new _).mono (by simp)), (ex_is (n := 0) (by decide) (k := 4) (rho := 0) (p := some ⟨W2.heap.size, 0, none⟩) (c := 1) (ts := [exP]) (by decide) (by decide) ⟨Nat.le_refl _, by unfold maxLen; show 1 ≤ _; omega⟩ (kids_new HJ2.out rfl)).below (box_new _), row_new (by simp)⟩ ?_
 rintro W3 ⟨hb3, hj3, hr3⟩
 have HR3 := Lib.hid hr3; have HJ3 := Lib.hid hj3; have HB3 := Lib.hid (below_then HB2.out hb3 HB2.out.size)
 clear hr3 hj3 hb3
 generalize hN3 : W2.heap.size + 1 = N3 at HR3 ⊢
 clear hN3
 have hj4 : AtIs (W3.alloc (.cells (acells (exH 4 0) (exV (some ⟨W2.heap.size, 0, none⟩) 1) 1).toArray 31)) (exH 17 1) (exV (some ⟨W3.heap.size, 0, none⟩) 1) 1 exT := ex_is (n := 0) (by decide) (k := 17) (rho := 1) (p := some ⟨W3.heap.size, 0, none⟩) (c := 1) (ts := [exF]) (by decide) (by decide) ⟨Nat.le_refl _, by unfold maxLen; show 1 ≤ _; omega⟩ (kids_new HJ3.out rfl)
 have hb4 := below_then HB3.out (box_new (w := W3) (.cells (acells (exH 4 0) (exV (some ⟨W2.heap.size, 0, none⟩) 1) 1).toArray 31)) HB3.out.size
 have hl4 := HLA.out.below hb4
 have htx := text_walk exT _ _ _ _ hj4 (by rw [wt_T]; omega) small_ex hl4.kw hl4.num hl4.sg
 unfold TermEnd at htx
 rw [text_ex.1, text_ex.2] at htx
 have HTX := Lib.hid htx; have HB4 := Lib.hid hb4
 have hst := exText_eq
 clear hj4 hl4 htx hb4
 go_wp2_with (refine at_load rfl _ rfl N3 0 rfl HR3.out ?_)
 refine HTX.out.mono ?_
 rintro e w5 ⟨rfl, hb5⟩
 have HB5 := Lib.hid (below_then HB4.out hb5 HB4.out.size)
 clear hb5
 generalize exText = ET at *
 go_wp2_with (fail)
 go_ret
 exact ⟨rfl, HB5.out⟩
end Disp
end Go.Proofs.YtkfkpjngiffamaaGreatDoor
namespace Go.Proofs.YtkfkpjngiffamaaGreatDoor
open Go.RowKit
set_option linter.unusedVariables false
set_option linter.unusedSimpArgs false
namespace Rt
open Effect (At AtOk AtsAt Rd ofA lt_of_block heap_alloc_new)
open Types (Reads veil veil_to veil_at veil_own veil_seen from_ seen_iff)

theorem AtsAt.reads {w W : World} {p : Option Addr} {l : List At} (h : AtsAt w p l) (hb : Reads w W) : AtsAt W p l := by
 rcases h with h | ⟨b, o, hp, h⟩
 ·exact .inl h
 ·exact .inr ⟨b, o, hp, fun i hi => ⟨hb _ _ (h i hi).1, hb _ _ (h i hi).2.1, hb _ _ (h i hi).2.2⟩⟩
theorem EffIs.reads {w W : World} {pe : Option Addr} {ne ce : Nat} {l : List At} (h : EffIs w pe ne ce l) (hb : Reads w W) : EffIs W pe ne ce l := ⟨⟨h.rd.len, AtsAt.reads h.rd.at_ hb, h.rd.ok⟩, h.cap⟩
theorem Kids.reads' {w W : World} {p : Option Addr} {ts : List RT} (h : Kids w p ts) (hb : Reads w W) : Kids W p ts := by
 induction h with
 | nokids p => exact .nokids p
 | atkids b o ts q c qe ce hh hc hl he hk ih => exact .atkids b o ts q c qe ce hh (fun i hi j v hv => hb _ _ (hc i hi j v hv)) hl (fun i hi => (he i hi).reads hb) (fun i hi => ih i hi)
theorem RtIs.reads' {w W : World} {h : Hd} {pe : Option Addr} {ne ce : Nat} {p : Option Addr} {l c : Nat} {t : RT} (k : RtIs w h pe ne ce p l c t) (hb : Reads w W) : RtIs W h pe ne ce p l c t := ⟨k.head, k.elen, k.len, k.ok, k.eff.reads hb, k.cap, k.kids.reads' hb⟩
def Flat (w : World) : List Value → List RT → Prop
 | xs, [] => xs = []
 | xs, t :: ts => ∃ qe ce q c ys, xs = rcells t.h qe t.h.e.length ce q t.ks.length c ++ ys ∧ RtIs w t.h qe t.h.e.length ce q t.ks.length c t ∧ Flat w ys ts
theorem Flat.append {w : World} : ∀ {ts us : List RT} {xs ys : List Value}, Flat w xs ts → Flat w ys us → Flat w (xs ++ ys) (ts ++ us)
 | [], us, xs, ys, h, k => by
  have : xs = [] := h
  subst this
  exact k
 | t :: ts, us, xs, ys, ⟨qe, ce, q, c, zs, he, hT, h⟩, k => ⟨qe, ce, q, c, zs ++ ys, by rw [he, List.append_assoc], hT, h.append k⟩
theorem Flat.one {w : World} {t : RT} {h : Hd} {pe : Option Addr} {ne ce : Nat} {q : Option Addr} {l c : Nat} (hT : RtIs w h pe ne ce q l c t) : Flat w (rcells h pe ne ce q l c) [t] := by
 have h0 := hT
 obtain ⟨h1, h2, h3, h4, h5, h6, h7⟩ := hT
 subst h1 h2 h3
 exact ⟨pe, ce, q, c, [], by simp, h0, rfl⟩
theorem Flat.get {w : World} : ∀ {ts : List RT} {xs : List Value}, Flat w xs ts → ∀ i, i < ts.length → ∃ qe ce q c, RtIs w (tget ts i).h qe (tget ts i).h.e.length ce q (tget ts i).ks.length c (tget ts i) ∧ ∀ j v, (rcells (tget ts i).h qe (tget ts i).h.e.length ce q (tget ts i).ks.length c)[j]? = some v → xs[i * 4 + j]? = some v
 | [], xs, _, i, hi => by simp at hi
 | t :: ts, xs, ⟨qe, ce, q, c, zs, he, hT, h⟩, 0, _ => by
  refine ⟨qe, ce, q, c, hT, fun j v hv => ?_⟩
  rw [he, Nat.zero_mul, Nat.zero_add, List.getElem?_append_left ?_]
  ·exact hv
  ·rcases Nat.lt_or_ge j (rcells t.h qe t.h.e.length ce q t.ks.length c).length with h | h
   ·exact h
   ·rw [List.getElem?_eq_none (by exact h)] at hv; cases hv
 | t :: ts, xs, ⟨qe, ce, q, c, zs, he, hT, h⟩, i + 1, hi => by
  obtain ⟨qe', ce', q', c', h1, h2⟩ := h.get i (by simpa using hi)
  refine ⟨qe', ce', q', c', h1, fun j v hv => ?_⟩
  rw [he, List.getElem?_append_right (by simp [rcells]; omega)]
  have e : (i + 1) * 4 + j - (rcells t.h qe t.h.e.length ce q t.ks.length c).length = i * 4 + j := by simp [rcells]; omega
  rw [e]
  exact h2 j v hv
theorem Flat.reads {w W : World} (hb : Reads w W) : ∀ {ts : List RT} {xs : List Value}, Flat w xs ts → Flat W xs ts
 | [], xs, h => h
 | t :: ts, xs, ⟨qe, ce, q, c, zs, he, hT, h⟩ => ⟨qe, ce, q, c, zs, he, hT.reads' hb, h.reads hb⟩
theorem kids_of_flat {W : World} {b : Nat} {xs : List Value} {ts : List RT} (hc : ∀ j u, xs[j]? = some u → W.cell? ⟨b, j, none⟩ = some u) (hf : Flat W xs ts) : Kids W (some ⟨b, 0, none⟩) ts := by
 have each : ∀ i, ∃ r : Option Addr × Nat × Option Addr × Nat, i < ts.length → RtIs W (tget ts i).h r.1 (tget ts i).h.e.length r.2.1 r.2.2.1 (tget ts i).ks.length r.2.2.2 (tget ts i) ∧ ∀ j v, (rcells (tget ts i).h r.1 (tget ts i).h.e.length r.2.1 r.2.2.1 (tget ts i).ks.length r.2.2.2)[j]? = some v → xs[i * 4 + j]? = some v := by
  intro i
  by_cases hi : i < ts.length
  ·obtain ⟨qe, ce, q, c, h1, h2⟩ := hf.get i hi
   exact ⟨(qe, ce, q, c), fun _ => ⟨h1, h2⟩⟩
  ·exact ⟨(none, 0, none, 0), fun h => absurd h hi⟩
 obtain ⟨R, hR⟩ := Classical.axiomOfChoice each
 refine .atkids b 0 ts (fun i => (R i).2.2.1) (fun i => (R i).2.2.2) (fun i => (R i).1) (fun i => (R i).2.1) (fun i hi => (hR i hi).1.ok) (fun i hi j v hv => ?_) (fun i hi => (hR i hi).1.cap) (fun i hi => (hR i hi).1.eff) (fun i hi => (hR i hi).1.kids)
 rw [Nat.zero_add]
 exact hc _ _ ((hR i hi).2 j v hv)
def RowR (B : Nat) (v : Value) (ts : List RT) (W : World) : Prop := ∃ xs, W.ownsRow B 28 4 v ts.length xs ∧ Flat (veil (Types.seen B v) W) xs ts
theorem RowR.nil (B : Nat) (W : World) : RowR B (.slice none 0 0) [] W := ⟨[], World.ownsRow_nil _ _ _ _, rfl⟩
theorem own_belowR {W W' : World} {B n : Nat} {v : Value} {xs : List Value} (h : W.ownsRow B 28 4 v n xs) (hb : Below W.heap.size W W') : W'.ownsRow B 28 4 v n xs := Effect.own_below h hb
theorem RowR.below {B : Nat} {v : Value} {ts : List RT} {W W' : World} (h : RowR B v ts W) (hb : Below W.heap.size W W') : RowR B v ts W' := by
 obtain ⟨xs, h1, h2⟩ := h
 exact ⟨xs, own_belowR h1 hb, h2.reads (veil_to fun b hbl hp => ⟨hp, hb.block b hbl⟩)⟩
theorem RowR.slice {B : Nat} {v : Value} {ts : List RT} {W : World} (h : RowR B v ts W) : ∃ a c, v = .slice a ts.length c ∧ c ≤ maxLen ∧ ts.length ≤ c := by
 obtain ⟨xs, h1, _⟩ := h; exact Effect.own_slice h1
theorem RowR.off {B : Nat} {v : Value} {ts : List RT} {W W' : World} (h : RowR B v ts W) (hb : ∀ b, B ≤ b → W'.heap[b]? = W.heap[b]?) : RowR B v ts W' := by
 obtain ⟨xs, h1, h2⟩ := h
 refine ⟨xs, ⟨h1.1, h1.2.imp id ?_⟩, h2.reads (veil_to fun b hbl hp => ⟨hp, hb b (seen_iff.1 hp).1⟩)⟩
 rintro ⟨g, cap, cur, rfl, hg, hh, r⟩
 exact ⟨g, cap, cur, rfl, hg, (hb g hg).trans hh, r⟩
theorem RowR.kids {B : Nat} {a : Option Addr} {c : Nat} {ts : List RT} {W : World} (h : RowR B (.slice a ts.length c) ts W) : Kids (veil (from_ B) W) a ts := by
 obtain ⟨xs, h1, h2⟩ := h
 by_cases h0 : ts.length = 0
 ·rw [List.length_eq_zero_iff.1 h0]; exact .nokids _
 ·rcases h1.2 with ⟨_, h0'⟩ | ⟨g, cap, cur, hv, hg, hh, h3, h4, h5, h6⟩
  ·omega
  ·injection hv with hv1 hv2 hv3
   subst hv1
   have hin : Reads (veil (Types.seen B (.slice (some ⟨g, 0, none⟩) ts.length c)) W) (veil (from_ B) W) := veil_to fun b hb hp => ⟨decide_eq_true (seen_iff.1 hp).1, rfl⟩
   refine kids_of_flat (fun j u hu => ?_) (h2.reads hin)
   have hc := h1.cells (g := g) rfl j u hu
   rw [Addr.add_lit] at hc
   rw [World.cell?_of_block (veil_at (decide_eq_true hg))]
   simpa using hc
end Rt
end Go.Proofs.YtkfkpjngiffamaaGreatDoor
