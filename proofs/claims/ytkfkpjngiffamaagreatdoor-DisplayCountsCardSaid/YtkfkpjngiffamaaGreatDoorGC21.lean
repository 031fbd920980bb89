import Derived.Test.YtkfkpjngiffamaaGreatDoorGC17
import Derived.Test.YtkfkpjngiffamaaGreatDoorGC06
import Derived.Test.YtkfkpjngiffamaaGreatDoorGC20
import Derived.Test.YtkfkpjngiffamaaGreatDoorGC15
import Derived.Test.YtkfkpjngiffamaaGreatDoorGC12
import Derived.Lib.Fields
import Derived.Test.YtkfkpjngiffamaaGreatDoorGC01
import Derived.Stop.LaidErr
import Derived.LaidMore
import Derived.LaidByTextLater
import Derived.Test.YtkfkpjngiffamaaGreatDoorGC05
namespace Go.Proofs.YtkfkpjngiffamaaGreatDoor
open Go.RowKit
set_option linter.unusedVariables false
set_option linter.unusedSimpArgs false
namespace Disp
open Aterm (AT Hd V AtIs HdIs tget wt wts nodeB allT allK smallB)
open Effect (At ofA textE textA digs atomB)
open Types (jb bl wInt wOpen wShut wStar wRef wArrow bl_jb bl_inj bl_app bl_cons bl_one bl_append jb_one)
open Rt (wAt wBang kw)
open Words (nameB exnB wordB ints)
open SE (atom node)

abbrev IMAX : Int := 9223372036854775807
def rngR (h : Rt.Hd) (_ : Nat) : Bool := decide (h.r ≤ 9223372036854775807 ∧ ∀ x ∈ h.e, x.r ≤ 9223372036854775807)
def rngB (h : Hd) (_ : Nat) : Bool := decide (h.rho ≤ IMAX ∧ h.h.n ≤ IMAX ∧ (∀ x ∈ h.rhos, x ≤ IMAX) ∧ ∀ x ∈ h.e, x.r ≤ IMAX) && Rt.allT rngR h.ty && Rt.allT rngR h.re
theorem rng_iff {h : Hd} {n : Nat} : rngB h n = true ↔ h.rho ≤ IMAX ∧ h.h.n ≤ IMAX ∧ (∀ x ∈ h.rhos, x ≤ IMAX) ∧ (∀ x ∈ h.e, x.r ≤ IMAX) ∧ Rt.allT rngR h.ty = true ∧ Rt.allT rngR h.re = true := by
 unfold rngB
 rw [Bool.and_eq_true, Bool.and_eq_true, decide_eq_true_iff]
 exact ⟨fun h => ⟨h.1.1.1, h.1.1.2.1, h.1.1.2.2.1, h.1.1.2.2.2, h.1.2, h.2⟩, fun h => ⟨⟨⟨h.1, h.2.1, h.2.2.1, h.2.2.2.1⟩, h.2.2.2.2.1⟩, h.2.2.2.2.2⟩⟩
theorem hd_rng {w : World} {h : Hd} {v : V} (k : HdIs w h v) (n : Nat) : rngB h n = true :=
 rng_iff.2 ⟨k.rho.2, k.hd.n.2, fun x hx => (k.rhos.ok x hx).2, fun x hx => (k.eok x hx).r.2, Rt.in_rangeT k.ty, Rt.in_rangeT k.re⟩
theorem kids_rng {w : World} {p : Option Addr} {ts : List AT} (h : Aterm.Kids w p ts) : allK rngB ts = true := by
 induction h with
 | nokids p => exact Aterm.allK_nil _
 | atkids b o ts v hh hc hl hk ih =>
  have : ∀ us : List AT, (∀ u ∈ us, allT rngB u = true) → allK rngB us = true := by
   intro us
   induction us with
   | nil => intro _; exact Aterm.allK_nil _
   | cons u us ihu => intro hu; rw [Aterm.allK_cons, hu u List.mem_cons_self, ihu (fun x hx => hu x (List.mem_cons_of_mem _ hx))]; rfl
  refine this ts (fun u hu => ?_)
  obtain ⟨i, hi, e⟩ := List.getElem_of_mem hu
  have e2 : tget ts i = u := by
   have := Aterm.tget_at hi
   rw [List.getElem?_eq_getElem hi, e] at this
   exact (Option.some.inj this).symm
  have h1 := ih i hi
  have h2 := hd_rng (hh i hi) (tget ts i).ks.length
  rw [e2] at h1 h2
  rw [Aterm.allT_eq, h1, h2]; rfl
theorem at_rng {w : World} {h : Hd} {v : V} {l : Nat} {t : AT} (hT : AtIs w h v l t) : allT rngB t = true := by
 rw [Aterm.allT_eq, kids_rng hT.kids, hT.head, hd_rng hT.ok]; rfl

def szW (w : ByteArray) : Prop := w.size ≤ 20
instance (w : ByteArray) : Decidable (szW w) := by unfold szW; infer_instance
theorem digs_sz {n : Int} (h : 0 ≤ n) (h2 : n ≤ IMAX) : szW (digs n) := Effect.digs_size n h h2
theorem word_sz {f : Int} {s : ByteArray} (h : wordB f (ints s.data.toList) = true) : szW s := by
 unfold wordB at h
 have h1 := (of_decide_eq_true h).2.1
 rw [Words.ints_length] at h1
 have e : s.size = s.data.toList.length := rfl
 unfold szW
 omega
theorem name_sz {s : ByteArray} (h : nameB s = true) : szW s := by
 unfold nameB at h
 rw [Bool.and_eq_true] at h
 exact word_sz h.1
theorem exn_sz {s : ByteArray} (h : exnB s = true) : szW s := word_sz h
def Sml (s : SE) : Prop := ∀ w ∈ atomsS s, szW w
def SmlL (l : List SE) : Prop := ∀ w ∈ atomsL l, szW w
theorem SmlL.nil : SmlL [] := fun w hw => by rw [atomsL_nil] at hw; cases hw
theorem SmlL.cons {t : SE} {ts : List SE} (h : Sml t) (k : SmlL ts) : SmlL (t :: ts) := fun w hw => by
 rw [atomsL_cons, List.mem_append] at hw
 rcases hw with hw | hw
 ·exact h w hw
 ·exact k w hw
theorem SmlL.app {l k : List SE} (h : SmlL l) (h2 : SmlL k) : SmlL (l ++ k) := fun w hw => by
 rw [atomsL_append, List.mem_append] at hw
 rcases hw with hw | hw
 ·exact h w hw
 ·exact h2 w hw
theorem Sml.ofL {l : List SE} (h : SmlL l) : Sml (node l) := fun w hw => by rw [atomsS_node] at hw; exact h w hw
theorem Sml.ofW {w : ByteArray} (h : szW w) : Sml (atom w) := fun v hv => by rw [atomsS_atom, List.mem_singleton] at hv; subst hv; exact h
theorem Sml.c {w : ByteArray} (h : decide (szW w) = true) : Sml (atom w) := Sml.ofW (of_decide_eq_true h)
theorem aKey_sml (x : At) : Sml (atom (aKey x)) := by
 unfold aKey
 by_cases h1 : x.k = 1
 ·rw [if_pos h1]; exact .c (by decide)
 ·rw [if_neg h1]
  by_cases h2 : x.k = 2
  ·rw [if_pos h2]; exact .c (by decide)
  ·rw [if_neg h2]; exact .c (by decide)
theorem aVal_sml {x : At} (h : atomB x = true) (hr2 : x.r ≤ IMAX) : Sml (atom (aVal x)) := by
 unfold aVal
 rcases atom_facts h with ⟨hk, -, hx⟩ | ⟨hk | hk, hr, -⟩
 ·rw [if_neg (by omega), if_neg (by omega)]; exact .ofW (exn_sz hx)
 ·rw [if_pos hk]; exact .ofW (digs_sz hr hr2)
 ·rw [if_neg (by omega), if_pos hk]; exact .ofW (digs_sz hr hr2)
theorem tail_sml : ∀ {l : List At}, (∀ x ∈ l, atomB x = true ∧ x.r ≤ IMAX) → SmlL (tailA l)
 | [], _ => SmlL.nil
 | x :: xs, h => by
  rw [tailA]
  exact .cons (.c (by decide)) (.cons (aKey_sml x) (.cons (aVal_sml (h x List.mem_cons_self).1 (h x List.mem_cons_self).2) (tail_sml fun y hy => h y (List.mem_cons_of_mem _ hy))))
theorem eff_sml {l : List At} (h : ∀ x ∈ l, atomB x = true ∧ x.r ≤ IMAX) : SmlL (effA l) := by
 cases l with
 | nil => rw [effA]; exact .cons (.c (by decide)) .nil
 | cons x xs => rw [effA]; exact .cons (aKey_sml x) (.cons (aVal_sml (h x List.mem_cons_self).1 (h x List.mem_cons_self).2) (tail_sml fun y hy => h y (List.mem_cons_of_mem _ hy)))
theorem eff_smlO (l : List At) (hr : ∀ x ∈ l, x.r ≤ IMAX) : SmlL (effA (ofA l)) := eff_sml fun x hx => ⟨((Effect.mem_of l x).1 hx).2, hr x ((Effect.mem_of l x).1 hx).1⟩
theorem at_sml {r : Int} (h : 0 ≤ r) (h2 : r ≤ IMAX) : SmlL (atA r) := .cons (.c (by decide)) (.cons (.ofW (digs_sz h h2)) .nil)
theorem rhos_sml {rs : List Int} (h : ∀ x ∈ rs, 0 ≤ x ∧ x ≤ IMAX) : SmlL (rhosA rs) := by
 unfold rhosA
 refine .cons (.c (by decide)) (.app ?_ (.cons (.c (by decide)) .nil))
 induction rs with
 | nil => exact SmlL.nil
 | cons x xs ih => exact .cons (.ofW (digs_sz (h x List.mem_cons_self).1 (h x List.mem_cons_self).2)) (ih fun y hy => h y (List.mem_cons_of_mem _ hy))
theorem ty_sml : ∀ m : Nat, ∀ t : Rt.RT, Rt.wt t ≤ m → Rt.mayT t = true → Rt.allT rngR t = true → Sml (sxR t) := by
 intro m
 induction m with
 | zero => intro t h; have := Rt.wt_pos t; omega
 | succ m ih =>
  intro t h hm hi
  have hi2 := hi
  rw [Rt.allT_eq, Bool.and_eq_true] at hi2
  obtain ⟨hrr, hee⟩ := of_decide_eq_true hi2.1
  have hki := fun i (hl : i < t.ks.length) => Rt.allK_get _ hl hi2.2
  obtain ⟨hk, hr, -⟩ := Rt.may_node hm
  rw [sxR_eq]
  unfold rhS inR
  rcases hk with ⟨hk, hl, -⟩ | ⟨hk, hl⟩ | ⟨hk, hl⟩
  ·rw [if_pos hk]; exact .c (by decide)
  ·have h0 := ih (Rt.tget t.ks 0) (by have := Rt.wt1 hl; omega) (Rt.may_kid hm (by omega)) (hki _ (by omega))
   rw [if_neg (by omega), if_neg (by omega), if_pos hk, kR_get (show 0 < t.ks.length by omega)]
   exact .ofL (.cons (.c (by decide)) (.cons h0 (at_sml hr hrr)))
  ·have h0 := ih (Rt.tget t.ks 0) (by have := Rt.wt2 hl; omega) (Rt.may_kid hm (by omega)) (hki _ (by omega))
   have h1 := ih (Rt.tget t.ks 1) (by have := Rt.wt2 hl; omega) (Rt.may_kid hm (by omega)) (hki _ (by omega))
   rcases hk with hk | hk
   ·rw [if_neg (by omega), if_pos hk, kR_get (show 0 < t.ks.length by omega), kR_get (show 1 < t.ks.length by omega)]
    exact .ofL (.cons h0 (.cons (.c (by decide)) (.cons h1 (at_sml hr hrr))))
   ·rw [if_neg (by omega), if_neg (by omega), if_neg (by omega), kR_get (show 0 < t.ks.length by omega), kR_get (show 1 < t.ks.length by omega)]
    exact .ofL (.cons h0 (.cons (.c (by decide)) (.cons h1 (.cons (.c (by decide)) (.app (eff_smlO _ hee) (at_sml hr hrr))))))
theorem tyS_sml {t : Rt.RT} (h : Rt.mayT t = true) (hi : Rt.allT rngR t = true) : Sml (sxR t) := ty_sml _ t (Nat.le_refl _) h hi
theorem sign_sml (op : Int) : Sml (atom (signW op)) := by
 unfold signW
 by_cases h1 : op = 1
 ·rw [if_pos h1]; exact .c (by decide)
 rw [if_neg h1]
 by_cases h2 : op = 2
 ·rw [if_pos h2]; exact .c (by decide)
 rw [if_neg h2]
 by_cases h3 : op = 3
 ·rw [if_pos h3]; exact .c (by decide)
 rw [if_neg h3]
 by_cases h4 : op = 4
 ·rw [if_pos h4]; exact .c (by decide)
 rw [if_neg h4]; exact .c (by decide)
set_option maxHeartbeats 1600000 in
theorem sx_sml : ∀ m : Nat, ∀ t : AT, wt t ≤ m → allT nodeB t = true → allT rngB t = true → Sml (sx t) := by
 intro m
 induction m with
 | zero => intro t h; have := Aterm.wt_pos t; omega
 | succ m ih =>
  intro t h hm hi
  obtain ⟨r1, r2, r3, r4, r5, r6⟩ := rng_iff.1 (top_all hi)
  have N := nd_of (top_all hm)
  have S := fun i (hi : i < t.ks.length) => kS_get hi
  have rh := at_sml N.rho.1 r1
  have rs := rhos_sml (fun x hx => ⟨N.rhos.1 x hx, r3 x hx⟩)
  have ef := eff_smlO t.h.e r4
  rw [sx_eq]
  unfold sxH inS
  rcases kinds hm with ⟨hk, hl⟩ | ⟨hk, hl⟩ | ⟨hk, hl⟩ | ⟨hk, hl⟩
  ·rcases hk with hk | hk | hk
   ·rw [if_pos hk]; exact .ofW (digs_sz N.n.1 r2)
   ·simp only [hk, ↓reduceIte, Int.reduceEq]; exact .ofW (name_sz (iff_pos N.name (by omega)))
   ·have nm := Sml.ofW (name_sz (iff_pos N.name (by omega)))
    simp only [hk, ↓reduceIte, Int.reduceEq]; exact .ofL (.cons nm (.app rs (.cons (.c (by decide)) (.app ef rh))))
  ·have h0 := ih (tget t.ks 0) (by have := wt1 hl; omega) (kid_all hm (by omega)) (kid_all hi (by omega))
   have s0 := S 0 (by omega)
   rcases hk with hk | hk | hk | hk | hk | hk | hk
   ·simp only [hk, ↓reduceIte, Int.reduceEq, s0]; exact .ofL (.cons (.c (by decide)) (.cons h0 .nil))
   ·simp only [hk, ↓reduceIte, Int.reduceEq, s0]; exact .ofL (.cons (.c (by decide)) (.cons h0 .nil))
   ·simp only [hk, ↓reduceIte, Int.reduceEq, s0]; exact .ofL (.cons (.c (by decide)) (.cons h0 rh))
   ·simp only [hk, ↓reduceIte, Int.reduceEq, s0]; exact .ofL (.cons (.c (by decide)) (.cons h0 .nil))
   ·have ar := Sml.ofW (name_sz (iff_pos N.arg (by omega)))
    have ty := tyS_sml (iff_pos N.ty (by omega)) r5
    simp only [hk, ↓reduceIte, Int.reduceEq, s0]; exact .ofL (.cons (.c (by decide)) (.cons ar (.cons (.c (by decide)) (.cons ty (.cons (.c (by decide)) (.app ef (.cons (.c (by decide)) (.cons h0 rh))))))))
   ·have ex := Sml.ofW (exn_sz (iff_pos N.exn (by omega)))
    have ty := tyS_sml (iff_pos N.ty (by omega)) r5
    simp only [hk, ↓reduceIte, Int.reduceEq, s0]; exact .ofL (.cons (.c (by decide)) (.cons ex (.cons h0 (.cons (.c (by decide)) (.cons ty .nil)))))
   ·simp only [hk, ↓reduceIte, Int.reduceEq, s0]; exact .ofL (.cons (.c (by decide)) (.cons (.ofW (digs_sz N.rho.1 r1)) (.cons (.c (by decide)) (.cons h0 .nil))))
  ·have h0 := ih (tget t.ks 0) (by have := wt2 hl; omega) (kid_all hm (by omega)) (kid_all hi (by omega))
   have s0 := S 0 (by omega)
   have h1 := ih (tget t.ks 1) (by have := wt2 hl; omega) (kid_all hm (by omega)) (kid_all hi (by omega))
   have s1 := S 1 (by omega)
   rcases hk with hk | hk | hk | hk | hk | hk | hk
   ·simp only [hk, ↓reduceIte, Int.reduceEq, s0, s1]; exact .ofL (.cons h0 (.cons (.c (by decide)) (.cons h1 rh)))
   ·simp only [hk, ↓reduceIte, Int.reduceEq, s0, s1]; exact .ofL (.cons h0 (.cons (.c (by decide)) (.cons h1 .nil)))
   ·simp only [hk, ↓reduceIte, Int.reduceEq, s0, s1]; exact .ofL (.cons h0 (.cons (sign_sml _) (.cons h1 .nil)))
   ·simp only [hk, ↓reduceIte, Int.reduceEq, s0, s1]; exact .ofL (.cons h0 (.cons h1 .nil))
   ·have nm := Sml.ofW (name_sz (iff_pos N.name (by omega)))
    simp only [hk, ↓reduceIte, Int.reduceEq, s0, s1]; exact .ofL (.cons (.c (by decide)) (.cons nm (.cons (.c (by decide)) (.cons h0 (.cons (.c (by decide)) (.cons h1 .nil))))))
   ·have nm := Sml.ofW (name_sz (iff_pos N.name (by omega)))
    have ar := Sml.ofW (name_sz (iff_pos N.arg (by omega)))
    have ty := tyS_sml (iff_pos N.ty (by omega)) r5
    have re := tyS_sml (iff_pos N.re hk) r6
    simp only [hk, ↓reduceIte, Int.reduceEq, s0, s1]
    exact .ofL (.cons (.c (by decide)) (.cons nm (.app rs (.cons ar (.cons (.c (by decide)) (.cons ty (.cons (.c (by decide)) (.cons re (.cons (.c (by decide)) (.app ef (.cons (.c (by decide)) (.cons h0 (.app rh (.cons (.c (by decide)) (.cons h1 .nil)))))))))))))))
   ·have ex := Sml.ofW (exn_sz (iff_pos N.exn (by omega)))
    have ar := Sml.ofW (name_sz (iff_pos N.arg (by omega)))
    simp only [hk, ↓reduceIte, Int.reduceEq, s0, s1]
    exact .ofL (.cons (.c (by decide)) (.cons h0 (.cons (.c (by decide)) (.cons ex (.cons ar (.cons (.c (by decide)) (.cons h1 .nil)))))))
  ·have h0 := ih (tget t.ks 0) (by have := wt3 hl; omega) (kid_all hm (by omega)) (kid_all hi (by omega))
   have h1 := ih (tget t.ks 1) (by have := wt3 hl; omega) (kid_all hm (by omega)) (kid_all hi (by omega))
   have h2 := ih (tget t.ks 2) (by have := wt3 hl; omega) (kid_all hm (by omega)) (kid_all hi (by omega))
   have s0 := S 0 (by omega)
   have s1 := S 1 (by omega)
   have s2 := S 2 (by omega)
   simp only [hk, ↓reduceIte, Int.reduceEq, s0, s1, s2]
   exact .ofL (.cons (.c (by decide)) (.cons h0 (.cons (.c (by decide)) (.cons h1 (.cons (.c (by decide)) (.cons h2 .nil))))))
theorem sml_sx {t : AT} (h : allT nodeB t = true) (hi : allT rngB t = true) : Sml (sx t) := sx_sml _ t (Nat.le_refl _) h hi

theorem tail_len : ∀ l : List At, (flatL (tailA l)).length = 3 * l.length
 | [] => by rw [tailA, flatL_nil]; rfl
 | x :: xs => by
  rw [tailA, flatL_cons, flatL_cons, flatL_cons, flatS_atom, flatS_atom, flatS_atom, List.length_append, List.length_append, List.length_append, tail_len xs]
  simp only [List.length_cons, List.length_nil]
  omega
theorem eff_len (l : List At) : (flatL (effA l)).length ≤ 3 * l.length + 1 := by
 cases l with
 | nil => rw [effA, flatL_cons, flatS_atom, flatL_nil]; simp
 | cons x xs =>
  rw [effA, flatL_cons, flatL_cons, flatS_atom, flatS_atom, List.length_append, List.length_append, tail_len]
  simp only [List.length_cons, List.length_nil]
  omega
theorem effO_len {l : List At} {n : Nat} (h : l.length ≤ n) : (flatL (effA (ofA l))).length ≤ 3 * n + 1 := by
 have h1 := eff_len (ofA l)
 have h2 := Effect.of_le l
 omega
theorem ty_len : ∀ m : Nat, ∀ t : Rt.RT, Rt.wt t ≤ m → Rt.mayT t = true → Rt.allT (Rt.effB 100) t = true → (flatS (sxR t)).length ≤ 310 * Rt.wt t := by
 intro m
 induction m with
 | zero => intro t h; have := Rt.wt_pos t; omega
 | succ m ih =>
  intro t h hm he
  have he2 := he
  rw [Rt.allT_eq, Bool.and_eq_true] at he2
  have hel := effO_len (Rt.eff_iff.1 he2.1).1
  obtain ⟨hk, -⟩ := Rt.may_node hm
  have hp := Rt.wt_pos t
  rw [sxR_eq]
  unfold rhS inR
  rcases hk with ⟨hk, hl, -⟩ | ⟨hk, hl⟩ | ⟨hk, hl⟩
  ·rw [if_pos hk, flatS_atom]; simp only [List.length_cons, List.length_nil]; omega
  ·have h0 := ih (Rt.tget t.ks 0) (by have := Rt.wt1 hl; omega) (Rt.may_kid hm (by omega)) (Rt.allK_get _ (by omega) he2.2)
   have hw := Rt.wt1 hl
   rw [if_neg (by omega), if_neg (by omega), if_pos hk, kR_get (show 0 < t.ks.length by omega)]
   simp only [flatS_node, flatL_cons, flatL_nil, flatS_atom, List.length_append, List.length_cons, List.length_nil]
   omega
  ·have h0 := ih (Rt.tget t.ks 0) (by have := Rt.wt2 hl; omega) (Rt.may_kid hm (by omega)) (Rt.allK_get _ (by omega) he2.2)
   have h1 := ih (Rt.tget t.ks 1) (by have := Rt.wt2 hl; omega) (Rt.may_kid hm (by omega)) (Rt.allK_get _ (by omega) he2.2)
   have hw := Rt.wt2 hl
   rcases hk with hk | hk
   ·rw [if_neg (by omega), if_pos hk, kR_get (show 0 < t.ks.length by omega), kR_get (show 1 < t.ks.length by omega)]
    simp only [flatS_node, flatL_cons, flatL_nil, flatS_atom, List.length_append, List.length_cons, List.length_nil]
    omega
   ·rw [if_neg (by omega), if_neg (by omega), if_neg (by omega), kR_get (show 0 < t.ks.length by omega), kR_get (show 1 < t.ks.length by omega)]
    simp only [flatS_node, flatL_cons, flatL_nil, flatL_append, flatS_atom, List.length_append, List.length_cons, List.length_nil]
    omega
theorem tyS_len {t : Rt.RT} (hm : Rt.mayT t = true) (hg : Rt.greatT t = false) : (flatS (sxR t)).length ≤ 31000 := by
 have h := Rt.small_eff hg
 have := ty_len _ t (Nat.le_refl _) hm h.2
 omega
set_option maxHeartbeats 1600000 in
theorem sx_len : ∀ m : Nat, ∀ t : AT, wt t ≤ m → allT nodeB t = true → allT smallB t = true → (flatS (sx t)).length ≤ 63000 * wt t := by
 intro m
 induction m with
 | zero => intro t h; have := Aterm.wt_pos t; omega
 | succ m ih =>
  intro t h hm hs
  have hlg := Aterm.long_no (h := t.h) (by have := top_all hs; unfold smallB at this; simpa using this)
  have hel := effO_len (Effect.great_no hlg.2.1).1
  have hrl : (flatL (rhosA t.h.rhos)).length = t.h.rhos.length + 2 := by rw [rhos_flat]; unfold rhosW; simp
  have hr50 := hlg.1.2.2.2
  have hat : (flatL (atA t.h.rho)).length = 2 := by rw [at_flat]; rfl
  have N := nd_of (top_all hm)
  have S := fun i (hi : i < t.ks.length) => kS_get hi
  have hp := Aterm.wt_pos t
  rw [sx_eq]
  unfold sxH inS
  rcases kinds hm with ⟨hk, hl⟩ | ⟨hk, hl⟩ | ⟨hk, hl⟩ | ⟨hk, hl⟩
  ·rcases hk with hk | hk | hk
   all_goals
    simp only [hk, ↓reduceIte, Int.reduceEq, flatS_node, flatL_cons, flatL_nil, flatL_append, flatS_atom, List.length_append, List.length_cons, List.length_nil, hrl, hat]
    omega
  ·have h0 := ih (tget t.ks 0) (by have := wt1 hl; omega) (kid_all hm (by omega)) (kid_all hs (by omega))
   have s0 := S 0 (by omega)
   have hw := wt1 hl
   rcases hk with hk | hk | hk | hk | hk | hk | hk
   case inr.inr.inr.inr.inl =>
    have ty := tyS_len (iff_pos N.ty (by omega)) hlg.2.2.1
    simp only [hk, s0, ↓reduceIte, Int.reduceEq, flatS_node, flatL_cons, flatL_nil, flatL_append, flatS_atom, List.length_append, List.length_cons, List.length_nil, hrl, hat]
    omega
   case inr.inr.inr.inr.inr.inl =>
    have ty := tyS_len (iff_pos N.ty (by omega)) hlg.2.2.1
    simp only [hk, s0, ↓reduceIte, Int.reduceEq, flatS_node, flatL_cons, flatL_nil, flatL_append, flatS_atom, List.length_append, List.length_cons, List.length_nil, hrl, hat]
    omega
   all_goals
    simp only [hk, s0, ↓reduceIte, Int.reduceEq, flatS_node, flatL_cons, flatL_nil, flatL_append, flatS_atom, List.length_append, List.length_cons, List.length_nil, hrl, hat]
    omega
  ·have h0 := ih (tget t.ks 0) (by have := wt2 hl; omega) (kid_all hm (by omega)) (kid_all hs (by omega))
   have h1 := ih (tget t.ks 1) (by have := wt2 hl; omega) (kid_all hm (by omega)) (kid_all hs (by omega))
   have s0 := S 0 (by omega)
   have s1 := S 1 (by omega)
   have hw := wt2 hl
   rcases hk with hk | hk | hk | hk | hk | hk | hk
   case inr.inr.inr.inr.inr.inl =>
    have ty := tyS_len (iff_pos N.ty (by omega)) hlg.2.2.1
    have re := tyS_len (iff_pos N.re hk) hlg.2.2.2
    simp only [hk, s0, s1, ↓reduceIte, Int.reduceEq, flatS_node, flatL_cons, flatL_nil, flatL_append, flatS_atom, List.length_append, List.length_cons, List.length_nil, hrl, hat]
    omega
   all_goals
    simp only [hk, s0, s1, ↓reduceIte, Int.reduceEq, flatS_node, flatL_cons, flatL_nil, flatL_append, flatS_atom, List.length_append, List.length_cons, List.length_nil, hrl, hat]
    omega
  ·have h0 := ih (tget t.ks 0) (by have := wt3 hl; omega) (kid_all hm (by omega)) (kid_all hs (by omega))
   have h1 := ih (tget t.ks 1) (by have := wt3 hl; omega) (kid_all hm (by omega)) (kid_all hs (by omega))
   have h2 := ih (tget t.ks 2) (by have := wt3 hl; omega) (kid_all hm (by omega)) (kid_all hs (by omega))
   have s0 := S 0 (by omega)
   have s1 := S 1 (by omega)
   have s2 := S 2 (by omega)
   have hw := wt3 hl
   simp only [hk, s0, s1, s2, ↓reduceIte, Int.reduceEq, flatS_node, flatL_cons, flatL_nil, flatL_append, flatS_atom, List.length_append, List.length_cons, List.length_nil, hrl, hat]
   omega
theorem text_small {t : AT} (hm : allT nodeB t = true) (hs : allT smallB t = true) (hi : allT rngB t = true) (hw : wt t ≤ 500) : (jb (partsT t)).size ≤ 661500000 ∧ (flatS (sx t)).length ≤ 31500000 := by
 have hl := sx_len _ t (Nat.le_refl _) hm hs
 have sm := sml_sx hm hi
 have hsh : Rt.Short 20 (flatS (sx t)) := fun w hw => by
  rcases (flat_words _).1 _ (Nat.le_refl _) w hw with rfl | rfl | h
  ·decide
  ·decide
  ·exact sm w h
 have := Rt.jb_size _ hsh
 rw [text_flat hm]
 have h2 : 63000 * wt t ≤ 63000 * 500 := Nat.mul_le_mul_left _ hw
 omega
end Disp
end Go.Proofs.YtkfkpjngiffamaaGreatDoor
namespace Go.Proofs.YtkfkpjngiffamaaGreatDoor
open Go.RowKit
set_option linter.unusedVariables false
set_option linter.unusedSimpArgs false
namespace Disp
open Effect (At AtOk AtsAt Rd RdI ofA ret_i64 ret_bool lt_of_block heap_alloc_new own_slice digs NumLaid textE)
open Aterm (AT Hd V AtIs HdIs Kids acells tget wt wts nodeB allT allK smallB Box box_of at_load exec_at range_below of_world atInfo)
open Rt (box_new below_then kw wAt wBang)
open Types (jb wInt wOpen wShut wStar wRef wArrow)
open Words (KwLaid)
open Types (jb_list)

def textS (t : AT) : ByteArray := if allT nodeB t = true then jb (partsT t) else ⟨#[]⟩
def errE (t : AT) : Int := if allT nodeB t = true then 0 else 1
def TermEnd (t : AT) (w : World) (e : Ending) (w' : World) : Prop := e = .returned (.tuple #[.string (textS t), .int .i64 (errE t)]) ∧ Below w.heap.size w w'
theorem may_small {t : AT} (h : wt t ≤ 500) : Aterm.mayT t = allT nodeB t := by unfold Aterm.mayT; rw [decide_eq_true (by omega), Bool.true_and]
theorem text_no {t : AT} (h : allT nodeB t = false) : textS t = ⟨#[]⟩ ∧ errE t = 1 := by unfold textS errE; rw [h]; exact ⟨rfl, rfl⟩
theorem text_yes {t : AT} (h : allT nodeB t = true) : textS t = jb (partsT t) ∧ errE t = 0 := by unfold textS errE; rw [h]; exact ⟨rfl, rfl⟩
set_option maxRecDepth 10000 in
set_option maxHeartbeats 12800000 in
theorem text_walk (t : AT) (h : Hd) (v : V) (l : Nat) (w : World) (hT : AtIs w h v l t) (hw : wt t ≤ 500) (hs : allT smallB t = true) (hkw : KwLaid w) (hn : NumLaid w) (hsg : SgLaid w) :
  Calls Tryz.prog 13 #[.agg #[.int .u8 h.h.k, .int .u8 h.h.op, .int .i64 h.h.pl, .int .i64 h.h.n, .string h.h.name, .string h.h.arg, .string h.h.exn, .int .i64 h.rho, .slice v.ra h.rhos.length v.rc, .slice v.ea h.e.length v.ec, .int .u8 h.ty.h.k, .int .i64 h.ty.h.r, .slice v.tea h.ty.h.e.length v.tec, .slice v.tka h.ty.ks.length v.tkc, .int .u8 h.re.h.k, .int .i64 h.re.h.r, .slice v.sea h.re.h.e.length v.sec, .slice v.ska h.re.ks.length v.skc, .slice v.ka l v.kc]] w (TermEnd t w) := by
 have hmay := fun (W : World) (hb : Below w.heap.size w W) => Aterm.may_walk t h v l W (hT.below hb) (by omega) hs (hkw.below hb)
 rw [may_small hw] at hmay
 have hrng := at_rng hT
 have HM := Lib.hid hmay; have HT := Lib.hid hT; have HN := Lib.hid hn; have HG := Lib.hid hsg; have HW := Lib.hid hw; have HS := Lib.hid hs; have HR := Lib.hid hrng
 clear hmay hT hn hw hs hkw hrng hsg
 go_enter Tryz.func13, Tryz.ntmps13
 go_upto_region 1 with (fail)
 refine of_world (F := fun V => Below w.heap.size w V ∧ V.rangeAt w.heap.size 0 (acells h v l)) ⟨box_new _, Aterm.row_new rfl⟩ ?_
 rintro W0 ⟨hb0, hr0⟩
 generalize hN1 : w.heap.size = N1 at hr0 ⊢
 have HC0 := Lib.hid hb0; have HR0 := Lib.hid hr0
 clear hb0 hr0 hN1
 go_wp2_with (refine at_load rfl _ rfl N1 0 rfl HR0.out ?_)
 refine (HM.out W0 HC0.out).mono ?_
 rintro en w1 ⟨rfl, hb1⟩
 have HB1 := Lib.hid (below_then HC0.out hb1 HC0.out.size); have HR1 := Lib.hid (range_below HR0.out hb1)
 clear hb1 HC0 HR0
 cases hmt : allT nodeB t
 ·obtain ⟨e1, e2⟩ := text_no hmt
  have HE := Lib.hid (And.intro e1 e2)
  clear hmt e1 e2
  go_wp2_with (fail)
  refine bodyPost_ret (v := .tuple #[.string ⟨#[]⟩, .int .i64 1]) (by simp [results, Tryz.results13, go_sem]) rfl ?_
  exact ⟨by rw [HE.out.1, HE.out.2], HB1.out⟩
 ·obtain ⟨e1, e2⟩ := text_yes hmt
  have hwl := parts_le hmt HS.out
  have hpos : 1 ≤ (partsT t).length := (parts_len _ t (Nat.le_refl _) hmt (few_of HS.out)).1
  have hwt := HW.out
  have hbd := (text_small hmt HS.out HR.out hwt).1
  have hcall := fun W hA hb => term_all w1 w1.heap.size (Nat.le_refl _) (HN.out.below HB1.out) (HG.out.below HB1.out) (wt t) t h v l [] W (Nat.le_refl _) hmt HS.out (HT.out.below HB1.out) hb hA (by rw [List.length_nil]; omega)
  have hA0 : WAt w1.heap.size [] (w1.alloc (.cells #[.slice none 0 0] 54)) := ⟨_, heap_alloc_new w1 _, World.ownsRow_nil _ _ _ _⟩
  have hle : (partsT t).length ≤ 1000000 := by omega
  have hrr := fun (W : World) (hb : Below w1.heap.size w1 W) => range_below HR1.out hb
  have HE := Lib.hid (And.intro e1 e2); have HC := Lib.hid hcall; have HA0 := Lib.hid hA0; have HLE := Lib.hid (And.intro hpos (And.intro hle hbd))
  have HRR := Lib.hid (hrr _ (box_new (.cells #[.slice none 0 0] 54)))
  clear hmt e1 e2 hwl hpos hwt hcall hA0 hle hbd hrr
  go_wp2_with (refine at_load rfl _ rfl N1 0 rfl HRR.out ?_)
  refine (HC.out _ HA0.out (box_new _)).mono ?_
  rintro en w5 ⟨rfl, hA5, hW5⟩
  rw [List.nil_append] at hA5
  obtain ⟨vv, hv5, hown⟩ := hA5
  obtain ⟨va, vc, hvv, _, hcap⟩ := own_slice hown
  subst hvv
  obtain ⟨g, rfl, hg⟩ := Rt.own_at hown (by have := HLE.out.1; omega)
  have e0 : w5.cell? ⟨w1.heap.size, 0, none⟩ = some (.slice (some ⟨g, 0, none⟩) (partsT t).length vc) := by simp [World.cell?, hv5]
  have el := lt_of_block hv5
  have hcells : ∀ (j : Nat) x, (partsT t)[j]? = some x → w5.cell? ⟨g, 0 + j, none⟩ = some (.string x) := by
   intro j x hx
   have := hown.cells (g := g) rfl j (.string x) (by rw [List.getElem?_map, hx]; rfl)
   rw [Addr.add_lit] at this
   exact this
  have hgl := (hown.lt g rfl).2
  have hle := HLE.out.2.1
  have hbd := HLE.out.2.2
  have hjoin := Tryz.strings_Join g 0 vc (partsT t) ⟨#[32]⟩ w5 hcells hgl (by omega) hcap (by have e : (jb (partsT t)).size = (Lib.join ((partsT t).map (·.data.toList)) [32]).length := (by rw [← jb_list]; rfl); rw [e] at hbd; show (Lib.join _ [32]).length ≤ _; omega)
  have hB5 : Below w.heap.size w w5 := Rt.below_then HB1.out ⟨hW5.os, hW5.tape, hW5.output, by have := hW5.size; simp at this; omega, fun k hk => (hW5.low k (by simp; omega) hk).trans (Below.heap_alloc _ _ _ hk)⟩ HB1.out.size
  have HJ := Lib.hid hjoin; have HB5 := Lib.hid hB5
  clear hv5 hown hcells hgl hbd hle hjoin hW5 hcap hg hB5
  generalize (partsT t).length = L at *
  go_wp2_with (fail)
  refine HJ.out.mono ?_
  rintro en w6 ⟨rfl, hb6⟩
  have HB6 := Lib.hid (below_then HB5.out hb6 HB5.out.size)
  clear hb6 e0 el
  go_wp2_with (fail)
  refine bodyPost_ret (v := .tuple #[.string ⟨(Lib.join (List.map (fun x => x.data.toList) (partsT t)) [32]).toArray⟩, .int .i64 0]) (by simp [results, Tryz.results13, go_sem]) rfl ?_
  exact ⟨by rw [HE.out.1, HE.out.2]; rfl, HB6.out⟩
end Disp
end Go.Proofs.YtkfkpjngiffamaaGreatDoor
namespace Go.Proofs.YtkfkpjngiffamaaGreatDoor
open Go.RowKit Go.Maps Go.ChangeMaps Go.MapKept
set_option linter.unusedVariables false
set_option linter.unusedSimpArgs false
namespace Disp
open Types (jb bl jb_list)
open Aterm (tokR tok_inj zeroBool)

theorem sp_seen : ∀ b : UInt8, 33 ≤ b.toNat → Lib.isSp b = false := by
 intro b h
 unfold Lib.isSp
 have e : ∀ n : UInt8, n.toNat < 33 → (b == n) = false := fun n hn => by
  rw [beq_eq_false_iff_ne]
  rintro rfl
  omega
 rw [e 9 (by decide), e 10 (by decide), e 11 (by decide), e 12 (by decide), e 13 (by decide), e 32 (by decide)]
 rfl
theorem go_word : ∀ (x cur rest : List UInt8), (∀ b ∈ x, Lib.isSp b = false) → Lib.fieldsGo cur (x ++ rest) = Lib.fieldsGo (cur ++ x) rest
 | [], cur, rest, _ => by rw [List.nil_append, List.append_nil]
 | b :: x, cur, rest, h => by
  rw [List.cons_append, Lib.fieldsGo, h b List.mem_cons_self, if_neg Bool.false_ne_true, go_word x (cur ++ [b]) rest (fun c hc => h c (List.mem_cons_of_mem _ hc)), List.append_assoc]
  rfl
theorem go_tail : ∀ (l : List (List UInt8)) (cur : List UInt8), cur ≠ [] → (∀ x ∈ l, x ≠ [] ∧ ∀ b ∈ x, Lib.isSp b = false) → Lib.fieldsGo cur (Lib.joinTail [32] l) = cur :: l
 | [], cur, hc, _ => by
  have e : Lib.joinTail [32] [] = [] := rfl
  have hcf : cur.isEmpty = false := by cases cur; exact absurd rfl hc; rfl
  rw [e, Lib.fieldsGo, hcf]; rfl
 | x :: l, cur, hc, h => by
  have hx := h x List.mem_cons_self
  have hcf : cur.isEmpty = false := by cases cur; exact absurd rfl hc; rfl
  have e : Lib.joinTail [32] (x :: l) = 32 :: (x ++ Lib.joinTail [32] l) := by simp [Lib.joinTail]
  rw [e, Lib.fieldsGo, show Lib.isSp 32 = true from rfl, if_pos rfl, hcf, if_neg Bool.false_ne_true, go_word x [] _ hx.2, List.nil_append, go_tail l x hx.1 (fun y hy => h y (List.mem_cons_of_mem _ hy))]
theorem fields_jb {ws : List ByteArray} (h : ∀ w ∈ ws, Seen w) : Lib.fields (jb ws).data.toList = ws.map bl := by
 rw [jb_list]
 have hh : ∀ x ∈ ws.map bl, x ≠ [] ∧ ∀ b ∈ x, Lib.isSp b = false := fun x hx => by
  obtain ⟨w, hw, rfl⟩ := List.mem_map.1 hx
  exact ⟨(h w hw).1, fun b hb => sp_seen b ((h w hw).2 b hb).1⟩
 unfold Lib.fields
 show Lib.fieldsGo [] (Lib.join (ws.map bl) [32]) = ws.map bl
 generalize ws.map bl = l at hh
 cases l with
 | nil => rfl
 | cons x l =>
  have hx := hh x List.mem_cons_self
  rw [Lib.join_cons, go_word x [] _ hx.2, List.nil_append, go_tail l x hx.1 (fun y hy => hh y (List.mem_cons_of_mem _ hy))]
theorem fields_back (ws : List ByteArray) : (ws.map bl).map (fun l => Value.string ⟨l.toArray⟩) = ws.map Value.string := by
 rw [List.map_map]
 congr 1
theorem ascii_jb {ws : List ByteArray} (h : ∀ w ∈ ws, Seen w) : ∀ (j : Nat) b, (jb ws).data.toList[j]? = some b → b.toNat < 128 := by
 intro j b hb
 have hm : b ∈ (jb ws).data.toList := List.mem_of_getElem? hb
 rw [jb_list] at hm
 have key : ∀ l : List (List UInt8), (∀ x ∈ l, ∀ b ∈ x, b.toNat < 128) → ∀ b ∈ Lib.joinTail [32] l, b.toNat < 128 := fun l => by
  induction l with
  | nil => intro _ b hb; cases hb
  | cons x l ih =>
   intro hl b hb
   have e : Lib.joinTail [32] (x :: l) = 32 :: (x ++ Lib.joinTail [32] l) := by simp [Lib.joinTail]
   rw [e, List.mem_cons, List.mem_append] at hb
   rcases hb with rfl | hb | hb
   ·decide
   ·exact hl x List.mem_cons_self b hb
   ·exact ih (fun y hy => hl y (List.mem_cons_of_mem _ hy)) b hb
 have hall : ∀ x ∈ ws.map bl, ∀ b ∈ x, b.toNat < 128 := fun x hx b hb => by
  obtain ⟨w, hw, rfl⟩ := List.mem_map.1 hx
  exact ((h w hw).2 b hb).2
 have hm2 : b ∈ Lib.join (ws.map bl) [32] := hm
 generalize ws.map bl = l at hall hm2
 cases l with
 | nil => rw [Lib.join_nil] at hm2; cases hm2
 | cons x l =>
  rw [Lib.join_cons, List.mem_append] at hm2
  rcases hm2 with hm2 | hm2
  ·exact hall x List.mem_cons_self b hm2
  ·exact key l (fun y hy => hall y (List.mem_cons_of_mem _ hy)) b hm2

instance decMem (x : ByteArray) (l : List ByteArray) : Decidable (x ∈ l) := decidable_of_iff (l.any (fun y => decide (y = x)) = true) (by simp)
theorem strKeyed : Keyed Tryz.prog 9 := string_keyed Tryz.underlying9
theorem strKey_of {s : ByteArray} (h : s.size ≤ maxLen) : keyOf Tryz.prog 9 (.string s) = some (Lit.string s.data.toList) := by
 simp [keyOf, Tryz.underlying9, mapKey, h]
def SetS (w : World) (b : Nat) (met : List ByteArray) : Prop :=
 ∃ (n : Nat) (D : DataW Value), w.ownsMap Tryz.prog 9 tokR b n D ∧ n ≤ met.length ∧ ∀ x : ByteArray, x.size ≤ maxLen → ∀ z, D.atKey (.string x.data.toList) z = if x ∈ met then .held (.bool true) else z
theorem SetS.new (w : World) : SetS (w.alloc (.map #[] 0)) w.heap.size [] := ⟨0, _, World.ownsMap_made w _ _ _, Nat.le_refl _, fun x _ z => rfl⟩
theorem SetS.lt {w : World} {b : Nat} {met : List ByteArray} (h : SetS w b met) : b < w.heap.size := by obtain ⟨_, D, h, _⟩ := h; exact h.lt
theorem SetS.of_block {w w' : World} {b : Nat} {met : List ByteArray} (h : SetS w b met) (hb : w'.heap[b]? = w.heap[b]?) : SetS w' b met := by
 obtain ⟨n, D, ⟨es, clock, h1, h2⟩, k⟩ := h
 exact ⟨n, D, ⟨es, clock, hb.trans h1, h2⟩, k⟩
theorem SetS.below {w w' : World} {b : Nat} {met : List ByteArray} (h : SetS w b met) (hb : Below w.heap.size w w') : SetS w' b met := h.of_block (hb.block b h.lt)
theorem SetS.look {w : World} {b : Nat} {met : List ByteArray} (h : SetS w b met) {x : ByteArray} (hx : x.size ≤ maxLen) :
  (Instr.lookup 52 (.map (some b)) (.string x) false).run Tryz.prog w = .ok (.bool (decide (x ∈ met))) w := by
 obtain ⟨n, D, h, _, k⟩ := h
 obtain ⟨v, ps, hrun, hv⟩ := h.lookup strKeyed Tryz.underlying52 (zeroBool w) (zd := .held (.bool false)) (zp := []) rfl (strKey_of hx)
 rw [k x hx] at hv
 rw [hrun]
 by_cases hm : x ∈ met
 ·rw [if_pos hm] at hv; rw [tok_inj hv, decide_eq_true hm]
 ·rw [if_neg hm] at hv; rw [tok_inj hv, decide_eq_false hm]
theorem SetS.store {w : World} {b : Nat} {met : List ByteArray} (h : SetS w b met) (hn : met.length < maxLen) {x : ByteArray} (hx : x.size ≤ maxLen) :
  ∃ w', (Instr.mapUpdate 52 (.map (some b)) (.string x) (.bool true)).run Tryz.prog w = .ok () w' ∧ SetS w' b (met ++ [x]) ∧ w.grownBy w' (some b) ∧ w'.heap.size = w.heap.size := by
 obtain ⟨n, D, h, hl, k⟩ := h
 obtain ⟨w', hrun, h', ht'⟩ := h.store strKeyed Tryz.underlying52 (Nat.lt_of_le_of_lt hl hn) (d := .held (.bool true)) (ps := []) (strKey_of hx) rfl
 refine ⟨w', hrun, ⟨n + 1, _, h', by simp; exact hl, fun y hy z => ?_⟩, ht'.grown, ?_⟩
 ·by_cases e : y = x
  ·subst e
   rw [atKey_put_same h.isMap (show WideAt.IsKeyLit (Lit.string y.data.toList) from trivial), if_pos (by simp)]
  ·have hne : Lit.string y.data.toList ≠ Lit.string x.data.toList := fun he => e (Types.bytes_ext (Lit.string.inj he))
   rw [atKey_put_other hne, k y hy z]
   have hm : y ∈ met ++ [x] ↔ y ∈ met := by simp [e]
   by_cases hy2 : y ∈ met
   ·rw [if_pos hy2, if_pos (hm.2 hy2)]
   ·rw [if_neg hy2, if_neg (fun hh => hy2 (hm.1 hh))]
 ·obtain ⟨es, clock, es', clock', _, rfl⟩ := ht'
  simp [setBlock]
set_option maxRecDepth 100000 in
theorem wpList_ask {w : World} {ops : Array Oper} {rest : List Oper} {a : Act} {Q : Exit → Act → World → Prop} {ps : String} {ty : TypeId} {af : Array Edge} {m x v : Operand} (b : Nat) (met : List ByteArray) (y : ByteArray)
  (hm : a.eval m = .map (some b)) (hx : a.eval x = .string y) (hv : a.eval v = .bool true) (h : SetS w b met) (hn : met.length < maxLen) (hi : y.size ≤ maxLen)
  (hK : ∀ w', SetS w' b (met ++ [y]) → w.grownBy w' (some b) → w'.heap.size = w.heap.size → wpList Tryz.prog ops Q rest a w') :
  wpList Tryz.prog ops Q ({ dst := none, op := .mapUpdate 52 m x v, type := ty, pos := ps, after := af, guard := none } :: rest) a w := by
 refine wpList_plain rfl fun K' hK' => ?_
 obtain ⟨w', hrun, r1, r2, r3⟩ := h.store hn hi
 unfold Oper.wp
 clear h hn hi
 simp [execOp, hm, hx, hv, hrun, Result.andThen]
 exact hK' _ _ (hK w' r1 r2 r3)
end Disp
end Go.Proofs.YtkfkpjngiffamaaGreatDoor
namespace Go.Proofs.YtkfkpjngiffamaaGreatDoor
open Go.RowKit Go.ChangeShapes
namespace Words

theorem cells_of_strs {H : Type} {enc : TypeId × Value → H} {P : Program} {w : World} {base : Nat} {sp : Nat → Bool} {held : Bool} {fuel : Nat} {t e : TypeId} {n : Nat} {cs : List Value} {zs : List (List UInt8)} {p : List MemPlace}
  (ht : P.underlying t = some (.array n e)) (he : P.underlying e = some .string) (hce : P.cellsOf e = 1) (hct : P.cellsOf t = n)
  (h : DataW.trod enc P w base sp held fuel t cs = some (.agg (zs.map fun z => .lit (.string z)), p)) : cs = zs.map fun z => Value.string ⟨z.toArray⟩ := by
 cases fuel with
 | zero => simp [DataW.trod] at h
 | succ fuel =>
  simp only [DataW.trod, ht, hce, hct, Nat.mul_one] at h
  split at h
  ·rename_i hl
   obtain ⟨xs, hm, hx⟩ := Option.map_eq_some_iff.1 h
   have hxs : xs.map (·.1) = zs.map fun z => (DataW.lit (.string z) : DataW H) := by
    have := congrArg Prod.fst hx
    simpa using this
   have hxl : xs.length = n := by simpa using Lib.mapM_length hm
   have hzl : zs.length = n := by
    have := congrArg List.length hxs
    simp at this
    omega
   apply List.ext_getElem?
   intro i
   by_cases hi : i < n
   ·obtain ⟨b, hb, hf⟩ := Lib.mapM_at hm i i (by simp [hi])
    obtain ⟨z, hc, rfl, _⟩ := DataW.trod_string he hf
    have h1 : cs[i]? = some (.string z) := by
     have := congrArg (·[0]?) hc
     simpa [List.getElem?_take, List.getElem?_drop] using this
    have h2 : (xs.map (·.1))[i]? = some (DataW.lit (.string z.data.toList) : DataW H) := by simp [hb]
    rw [hxs] at h2
    simp only [List.getElem?_map, Option.map_eq_some_iff, DataW.lit.injEq, Lit.string.injEq] at h2
    obtain ⟨z', hz', e⟩ := h2
    simp [h1, hz', e]
   ·rw [List.getElem?_eq_none (by omega), List.getElem?_eq_none (by simp; omega)]
  ·cases h

theorem gKw : Tryz.prog.globalNamed "enclave/words.keywords" = some 5 := by kernel_rfl
theorem tKw : (Tryz.prog.globals[5]?).map (·.type) = some 177 := by kernel_rfl
theorem kwLaid_of {W : World} {r : List (String × DataW Unit)} (h : laidMet Tryz.prog (("enclave/words.keywords", Rows.laid_enclave_words_keywords) :: r) W) : KwLaid W := by
 obtain ⟨ps, ⟨g', t', cs, fuel, p, q, hg', ht', hvar, hd, _, _⟩, _⟩ := h
 obtain rfl := Option.some.inj (gKw.symm.trans hg')
 obtain rfl := Option.some.inj (tKw.symm.trans ht')
 have hcs := cells_of_strs (zs := kwTexts) Tryz.underlying177 Tryz.underlying9 (by kernel_rfl) (by kernel_rfl) hd
 intro k hk
 have := World.var?_cell gKw hvar k
 obtain ⟨l⟩ := cs
 simp only at hcs
 subst hcs
 have hk' : k < kwTexts.length := hk
 rw [this]
 simp [kwT, List.getD, hk']

end Words
end Go.Proofs.YtkfkpjngiffamaaGreatDoor
namespace Go.Proofs.YtkfkpjngiffamaaGreatDoor
open Go.RowKit Go.ChangeShapes
set_option linter.unusedVariables false
namespace Disp
open Effect (NumLaid gPow)
open Words (KwLaid kwLaid_of cells_of_strs)

def FldLaid (w : World) : Prop := Lib.TabIs Tryz.prog w "strings.asciiSpace" .u8 Lib.asciiSpaceTab
theorem gFld : Tryz.prog.globalNamed "strings.asciiSpace" = some 0 := by kernel_rfl
theorem FldLaid.below {w W : World} (h : FldLaid w) (hb : Below w.heap.size w W) : FldLaid W := Go.Joins.tab_stays gFld h hb (Nat.le_refl _)
set_option maxRecDepth 100000 in
theorem fld_of {W : World} {r : List (String × DataW Unit)} (h : laidMet Tryz.prog (("strings.asciiSpace", Rows.laid_strings_asciiSpace) :: r) W) : FldLaid W :=
 Lib.tabIs_of_head (zs := Lib.asciiSpaceTab) (k := .u8) gFld (t := 68) (by kernel_rfl) Tryz.underlying68 Tryz.underlying5 (by kernel_rfl) (by kernel_rfl) h
theorem num_of {W : World} {r : List (String × DataW Unit)} (h : laidMet Tryz.prog (("internal/strconv.uint64pow10", Rows.laid_internal_strconv_uint64pow10) :: r) W) : NumLaid W :=
 Lib.tabIs_of_head (zs := Lib.pow10Tab) (k := .u64) gPow (t := 162) (by kernel_rfl) Tryz.underlying162 Tryz.underlying143 (by kernel_rfl) (by kernel_rfl) h
def sgTexts : List (List UInt8) := [[], [43], [45], [42], [60], [61]]
theorem gSg : Tryz.prog.globalNamed "enclave/display.signs" = some 2 := by kernel_rfl
theorem tSg : (Tryz.prog.globals[2]?).map (·.type) = some 102 := by kernel_rfl
theorem sg_of {W : World} {r : List (String × DataW Unit)} (h : laidMet Tryz.prog (("enclave/display.signs", Rows.laid_enclave_display_signs) :: r) W) : SgLaid W := by
 obtain ⟨ps, ⟨g', t', cs, fuel, p, q, hg', ht', hvar, hd, _, _⟩, _⟩ := h
 obtain rfl := Option.some.inj (gSg.symm.trans hg')
 obtain rfl := Option.some.inj (tSg.symm.trans ht')
 have hcs := cells_of_strs (zs := sgTexts) Tryz.underlying102 Tryz.underlying9 (by kernel_rfl) (by kernel_rfl) hd
 intro k h1 h2
 have := World.var?_cell gSg hvar k
 obtain ⟨l⟩ := cs
 simp only at hcs
 subst hcs
 rw [this]
 have hh : k = 1 ∨ k = 2 ∨ k = 3 ∨ k = 4 ∨ k = 5 := by omega
 rcases hh with rfl | rfl | rfl | rfl | rfl <;> rfl
structure Laid (w : World) : Prop where
 num : NumLaid w
 kw : KwLaid w
 sg : SgLaid w
theorem Laid.below {w W : World} (h : Laid w) (hb : Below w.heap.size w W) : Laid W := ⟨h.num.below hb, h.kw.below hb, h.sg.below hb⟩
theorem laid7 {W : World} {a b c : String × DataW Unit} {r : List (String × DataW Unit)} (h : laidMet Tryz.prog (a :: b :: ("internal/strconv.uint64pow10", Rows.laid_internal_strconv_uint64pow10) :: c :: ("strings.asciiSpace", Rows.laid_strings_asciiSpace) :: ("enclave/words.keywords", Rows.laid_enclave_words_keywords) :: ("enclave/display.signs", Rows.laid_enclave_display_signs) :: r) W) : Laid W ∧ FldLaid W :=
 ⟨⟨num_of h.tail.tail, kwLaid_of h.tail.tail.tail.tail.tail, sg_of h.tail.tail.tail.tail.tail.tail⟩, fld_of h.tail.tail.tail.tail⟩
end Disp
end Go.Proofs.YtkfkpjngiffamaaGreatDoor
namespace Go.Proofs.YtkfkpjngiffamaaGreatDoor
open Go.RowKit
set_option linter.unusedVariables false
set_option linter.unusedSimpArgs false
namespace Disp
open Effect (At AtOk AtsAt Rd RdI ofA ret_i64 ret_bool lt_of_block heap_alloc_new own_slice digs NumLaid textE)
open Aterm (AT Hd V AtIs HdIs Kids acells tget wt wts nodeB allT allK smallB Box box_of at_load exec_at range_below of_world atInfo)
open Rt (box_new below_then kw wAt wBang)
open Types (jb wInt wOpen wShut wStar wRef wArrow)
open Words (KwLaid)
open Types (jb_list bl)

def cntIn (ws l : List ByteArray) : Nat := l.countP fun x => decide (x ∈ ws)
def wordsOf (t : AT) : List ByteArray := if allT nodeB t = true then flatS (sx t) else []
theorem cntIn_nil (ws : List ByteArray) : cntIn ws [] = 0 := rfl
theorem cntIn_snoc (ws l : List ByteArray) (x : ByteArray) : cntIn ws (l ++ [x]) = cntIn ws l + if x ∈ ws then 1 else 0 := by
 unfold cntIn
 rw [List.countP_append, List.countP_singleton]
 simp
theorem cntIn_le (ws l : List ByteArray) : cntIn ws l ≤ l.length := List.countP_le_length
theorem words_text {t : AT} : textS t = jb (wordsOf t) := by
 unfold textS wordsOf
 by_cases h : allT nodeB t = true
 ·rw [if_pos h, if_pos h, text_flat h]
 ·rw [if_neg h, if_neg h]; rfl
theorem words_seen {t : AT} : ∀ x ∈ wordsOf t, Seen x := by
 unfold wordsOf
 by_cases h : allT nodeB t = true
 ·rw [if_pos h]; exact seen_flat (good_sx h)
 ·rw [if_neg h]; intro x hx; cases hx
theorem words_small {t : AT} (hs : allT smallB t = true) (hi : allT rngB t = true) (hw : wt t ≤ 500) : (textS t).size ≤ 661500000 ∧ (wordsOf t).length ≤ 31500000 := by
 unfold textS wordsOf
 by_cases h : allT nodeB t = true
 ·rw [if_pos h, if_pos h]; exact text_small h hs hi hw
 ·rw [if_neg h, if_neg h]; exact ⟨Nat.zero_le _, Nat.zero_le _⟩
theorem src_get {w : World} {p : Option Addr} {m c : Nat} {ts : List ByteArray} (h : Src w p m c ts) {j : Nat} (hj : j < m) : ∃ b o x, p = some ⟨b, o, none⟩ ∧ ts[j]? = some x ∧ w.cell? ⟨b, o + j, none⟩ = some (.string x) := by
 obtain ⟨hl, h⟩ := h
 rcases h with ⟨_, rfl, _⟩ | ⟨⟨b, o, s⟩, rfl, hc⟩
 ·omega
 ·have hx : ts[j]? = some (ts[j]'(by omega)) := List.getElem?_eq_getElem _
  have h1 := hc j (.string (ts[j]'(by omega))) (by rw [List.getElem?_map, hx]; rfl)
  have hs : s = none := by
   have h0 := hc 0 (.string (ts[0]'(by omega))) (by rw [List.getElem?_map, List.getElem?_eq_getElem (by omega)]; rfl)
   have h2 := World.cell?_spot h0
   unfold Addr.add at h2
   rw [if_pos rfl] at h2
   exact h2
  subst hs
  rw [Addr.add_lit] at h1
  exact ⟨b, o, _, rfl, hx, h1⟩
set_option maxRecDepth 100000 in
set_option maxHeartbeats 12800000 in
theorem count_walk (t : AT) (h : Hd) (v : V) (l : Nat) (ws : List ByteArray) (p : Option Addr) (n c : Nat) (w : World) (hT : AtIs w h v l t) (hw : wt t ≤ 500) (hs : allT smallB t = true) (hS : Src w p n c ws) (hn : n ≤ 1000000) (hnc : n ≤ c ∧ c ≤ maxLen) (hsz : ∀ x ∈ ws, x.size ≤ maxLen) (hla : Laid w) (hfl : FldLaid w) :
  Calls Tryz.prog 12 #[.agg #[.int .u8 h.h.k, .int .u8 h.h.op, .int .i64 h.h.pl, .int .i64 h.h.n, .string h.h.name, .string h.h.arg, .string h.h.exn, .int .i64 h.rho, .slice v.ra h.rhos.length v.rc, .slice v.ea h.e.length v.ec, .int .u8 h.ty.h.k, .int .i64 h.ty.h.r, .slice v.tea h.ty.h.e.length v.tec, .slice v.tka h.ty.ks.length v.tkc, .int .u8 h.re.h.k, .int .i64 h.re.h.r, .slice v.sea h.re.h.e.length v.sec, .slice v.ska h.re.ks.length v.skc, .slice v.ka l v.kc], .slice p n c] w fun e w' => e = .returned (.int .i64 (cntIn ws (wordsOf t) : Nat)) ∧ Below w.heap.size w w' := by
 have hlen := hS.1
 have hrng := at_rng hT
 obtain ⟨hts, hwl⟩ := words_small hs hrng hw
 have htx := fun (W : World) (hb : Below w.heap.size w W) => text_walk t h v l W (hT.below hb) hw hs (hla.kw.below hb) (hla.num.below hb) (hla.sg.below hb)
 have hfd := fun (W : World) (hb : Below w.heap.size w W) => Tryz.strings_Fields (textS t) W (by omega) (by rw [words_text]; exact ascii_jb words_seen) (hfl.below hb)
 have hsrc := fun (W : World) (hb : Below w.heap.size w W) (j : Nat) (hj : j < n) => src_get (hS.below hb) hj
 have hfe : Lib.fields (textS t).data.toList = (wordsOf t).map Types.bl := by rw [words_text]; exact fields_jb words_seen
 have hxs : ∀ x ∈ wordsOf t, x.size ≤ maxLen := fun x hx => by
  have h2 : (jb (wordsOf t)).size = (Lib.join ((wordsOf t).map (·.data.toList)) [32]).length := by rw [← jb_list]; rfl
  rw [words_text] at hts
  have h3 : x.size ≤ (jb (wordsOf t)).size := by
   obtain ⟨a, b, e⟩ := List.append_of_mem hx
   have := Rt.jb_part (a := a) (b := [x]) (c := b)
   rw [Types.jb_one] at this
   rw [e, show a ++ x :: b = a ++ [x] ++ b by simp]
   exact this
  unfold maxLen
  omega
 simp only [hfe, fields_back, List.length_map] at hfd
 have HTX := Lib.hid htx; have HFD := Lib.hid hfd; have HSR := Lib.hid hsrc; have HLEN := Lib.hid hlen; have HSZ := Lib.hid hsz; have HXS := Lib.hid hxs; have HWL := Lib.hid hwl
 have hcl : c ≤ 9223372036854775807 := hnc.2
 have hcq := hnc.1
 clear htx hfd hsrc hlen hsz hT hw hs hS hla hfl hrng hts hwl hfe hxs hnc
 generalize wordsOf t = L at *
 have hmm := @run_makeMap Tryz.prog
 go_enter Tryz.func12, Tryz.ntmps12
 go_upto_region 1 with (fail)
 refine of_world (F := fun V => Below w.heap.size w V ∧ V.rangeAt w.heap.size 0 (acells h v l)) ⟨box_new _, Aterm.row_new rfl⟩ ?_
 rintro W0 ⟨hb0, hr0⟩
 have hN1 : w.heap.size < W0.heap.size := World.block_lt_of_cell? W0 ⟨w.heap.size, 0, none⟩ (hr0 0 _ rfl)
 generalize hNN : w.heap.size = N1 at hr0 hN1 ⊢
 have HC0 := Lib.hid hb0; have HR0 := Lib.hid hr0; have HN1 := Lib.hid hN1
 have HB1 := Lib.hid (below_then hb0 (box_new (.map #[] 0)) hb0.size); have HR1 := Lib.hid (range_below hr0 (box_new (.map #[] 0)))
 have HSET := Lib.hid (SetS.new W0)
 clear hb0 hr0 hN1
 have HNN := Lib.hid hNN
 clear hNN
 generalize hM : W0.heap.size = M at *
 go_wp2_with (fail)
 go_loopw [7, 16] (fun _ i wr => ∃ j : Nat, j ≤ n ∧ i = .int .i64 (j : Int) ∧ Hid (SetS wr M (ws.take j)) ∧ Hid (Below w.heap.size w wr) ∧ Hid (wr.rangeAt N1 0 (acells h v l))) (fun _ i _ => n - (intOf i).toNat)
 case atStart => exact ⟨0, Nat.zero_le _, rfl, Lib.hid (by rw [List.take_zero]; exact HSET.out), HB1, HR1⟩
 case round =>
  obtain ⟨j, hj, rfl, HST, HBJ, HRJ⟩ := hrel
  by_cases hlt : j < n
  ·obtain ⟨b, o, x, hp, hx, hc⟩ := HSR.out wr HBJ.out j hlt
   subst hp
   have hxz := HSZ.out x (List.mem_of_getElem? hx)
   have htk : ws.take (j + 1) = ws.take j ++ [x] := by rw [List.take_add_one, hx]; rfl
   have HXZ := Lib.hid hxz; have HTK := Lib.hid htk
   have HTL := Lib.hid (show (ws.take j).length < maxLen by rw [List.length_take]; unfold maxLen; omega)
   clear hx hxz htk
   go_wp2_with (refine wpList_ask M (ws.take j) x rfl rfl rfl HST.out HTL.out HXZ.out ?_; intro w2 hs2 hg2 hz2; have HS2 := Lib.hid hs2; have HB2 := Lib.hid (HBJ.out.grown hg2 HBJ.out.size (fun k hk => by have := Option.some.inj hk; have := HN1.out; have := HNN.out; omega)); have HR2 := Lib.hid (show w2.rangeAt N1 0 (acells h v l) from fun q u hu => (World.cell?_of_block (w := wr) (hg2.block N1 (World.block_lt_of_cell? wr _ (HRJ.out q u hu)) (fun e => by have := Option.some.inj e; have := HN1.out; omega))).trans (HRJ.out q u hu)); clear hs2 hg2 hz2)
   go_roundw
   case rel => exact ⟨j + 1, by omega, by go_num, Lib.hid (by rw [HTK.out]; exact HS2.out), HB2, HR2⟩
   case measure => simp [intOf]; omega
  ·obtain rfl : j = n := by omega
   have hst := HST.out
   rw [List.take_of_length_le (by rw [HLEN.out]; exact Nat.le_refl _)] at hst
   have HS1 := Lib.hid hst
   clear hst HST
   go_wp2_with (refine at_load rfl _ rfl N1 0 rfl HRJ.out ?_)
   refine (HTX.out wr HBJ.out).mono ?_
   rintro e w3 ⟨rfl, hb3⟩
   have HB3 := Lib.hid (below_then HBJ.out hb3 HBJ.out.size); have HS3 := Lib.hid (HS1.out.below hb3)
   clear hb3
   go_wp2_with (fail)
   refine (HFD.out w3 HB3.out).mono ?_
   rintro e w4 ⟨rfl, hw4⟩
   have hb4 : Below w3.heap.size w3 w4 := by rw [hw4]; exact box_new _
   have hcell : ∀ (i : Nat) x, L[i]? = some x → w4.cell? ⟨w3.heap.size, i, none⟩ = some (.string x) := fun i x hx => by
    rw [hw4]
    simp only [World.cell?, heap_alloc_new]
    simp [hx]
   have HB4 := Lib.hid (below_then HB3.out hb4 HB3.out.size); have HS4 := Lib.hid (HS3.out.below hb4); have HCE := Lib.hid hcell
   clear hw4 hb4 hcell
   generalize w3.heap.size = G at *
   have hL31 : (L.length : Int) ≤ 31500000 := by have := HWL.out; omega
   go_wp2_with (fail)
   go_loopw [10, 12, 31] (fun k _ i wr => ∃ j : Nat, j ≤ L.length ∧ i = .int .i64 (j : Int) ∧ k = .int .i64 (cntIn ws (L.take j) : Nat) ∧ wr = w4) (fun _ _ i _ => L.length - (intOf i).toNat)
   case atStart => exact ⟨0, Nat.zero_le _, rfl, by rw [List.take_zero, cntIn_nil]; rfl, rfl⟩
   case round =>
    obtain ⟨j, hj, rfl, rfl, rfl⟩ := hrel
    by_cases hlt : j < L.length
    ·have hx := List.getElem?_eq_getElem hlt
     have hc := HCE.out j _ hx
     have hxz := HXS.out L[j] (List.getElem_mem hlt)
     have htk : cntIn ws (L.take (j + 1)) = cntIn ws (L.take j) + if L[j] ∈ ws then 1 else 0 := by rw [List.take_add_one, hx]; exact cntIn_snoc _ _ _
     have hle := cntIn_le ws (L.take j)
     rw [List.length_take] at hle
     have hlk := HS4.out.look hxz
     generalize L[j] = x at *
     have HTK := Lib.hid htk
     have hk0 : (cntIn ws (L.take j) : Int) ≤ 31500000 := by omega
     clear hx hxz htk hle
     generalize cntIn ws (L.take j) = q at *
     by_cases hin : x ∈ ws
     ·rw [decide_eq_true hin] at hlk
      have HI := Lib.hid hin
      clear hin
      go_wp2_with (fail)
      go_roundw
      case rel => exact ⟨j + 1, by omega, by go_num, by rw [HTK.out, if_pos HI.out]; go_num, trivial⟩
      case measure => simp [intOf]; omega
     ·rw [decide_eq_false hin] at hlk
      have HI := Lib.hid hin
      clear hin
      go_wp2_with (fail)
      go_roundw
      case rel => exact ⟨j + 1, by omega, by go_num, by rw [HTK.out, if_neg HI.out, Nat.add_zero], trivial⟩
      case measure => simp [intOf]; omega
    ·obtain rfl : j = L.length := by omega
     have HQ := Lib.hid (show cntIn ws (L.take L.length) = cntIn ws L by rw [List.take_length])
     go_wp2_with (fail)
     go_ret
     exact ⟨ret_i64 (show ((cntIn ws (L.take L.length) : Nat) : Int) = (cntIn ws L : Nat) by rw [HQ.out]), HB4.out⟩
end Disp
end Go.Proofs.YtkfkpjngiffamaaGreatDoor
