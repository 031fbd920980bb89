import Derived.Test.YtkfkpjngiffamaaGreatDoorGC00
import Derived.Sort.Statements
import Derived.Lib.Bytealg
import Derived.Test.YtkfkpjngiffamaaGreatDoorGC01
import Derived.Test.YtkfkpjngiffamaaGreatDoorEfShelf
import Derived.Test.YtkfkpjngiffamaaGreatDoorEfShelfG
import Derived.Laws.StructEq
import Derived.Maps.AppendAt
import Derived.IntWalk
import Derived.OrdersHeld
import Derived.LoopTactic
import Derived.Sort.OwnSortedInts
import Derived.Deep.RegionHeld
import Derived.Deep.Draws
namespace Go.Proofs.YtkfkpjngiffamaaGreatDoor
set_option linter.unusedVariables false
namespace Effect

structure At where
 k : Int
 r : Int
 x : ByteArray
deriving DecidableEq
instance : Inhabited At := ⟨⟨0, 0, ByteArray.empty⟩⟩
def lessS (a b : ByteArray) : Bool := Op.bytesLess a.toList b.toList
theorem less_irrefl : ∀ l : List UInt8, Op.bytesLess l l = false
 | [] => rfl
 | a :: l => by
  show (decide (a < a) || (a == a && Op.bytesLess l l)) = false
  rw [less_irrefl l]; simp
theorem less_trans : ∀ l m k : List UInt8, Op.bytesLess l m = true → Op.bytesLess m k = true → Op.bytesLess l k = true
 | _, [], _, h, _ => by cases ‹List UInt8› <;> simp [Op.bytesLess] at h
 | _, _ :: _, [], _, h => by simp [Op.bytesLess] at h
 | [], _ :: _, _ :: _, _, _ => rfl
 | a :: l, b :: m, c :: k, h1, h2 => by
  simp only [Op.bytesLess, Bool.or_eq_true, Bool.and_eq_true, decide_eq_true_eq, beq_iff_eq] at h1 h2 ⊢
  rcases h1 with h1 | ⟨rfl, h1⟩
  ·rcases h2 with h2 | ⟨rfl, h2⟩
   ·exact .inl (UInt8.lt_trans h1 h2)
   ·exact .inl h1
  ·rcases h2 with h2 | ⟨rfl, h2⟩
   ·exact .inl h2
   ·exact .inr ⟨rfl, less_trans l m k h1 h2⟩
theorem less_total : ∀ l m : List UInt8, Op.bytesLess l m = false → Op.bytesLess m l = false → l = m
 | [], [], _, _ => rfl
 | [], _ :: _, h, _ => by simp [Op.bytesLess] at h
 | _ :: _, [], _, h => by simp [Op.bytesLess] at h
 | a :: l, b :: m, h1, h2 => by
  simp only [Op.bytesLess, Bool.or_eq_false_iff, Bool.and_eq_false_iff, decide_eq_false_iff_not] at h1 h2
  have e : a = b := UInt8.le_antisymm (UInt8.not_lt.1 h2.1) (UInt8.not_lt.1 h1.1)
  subst e
  rw [less_total l m (h1.2.resolve_left (by simp)) (h2.2.resolve_left (by simp))]
theorem toList_inj {a b : ByteArray} (h : a.toList = b.toList) : a = b := by
 rw [Lib.toList_data, Lib.toList_data] at h
 cases a; cases b; simpa using h
theorem lessS_irrefl (a : ByteArray) : lessS a a = false := less_irrefl _
theorem lessS_trans {a b c : ByteArray} (h1 : lessS a b = true) (h2 : lessS b c = true) : lessS a c = true := less_trans _ _ _ h1 h2
theorem lessS_total {a b : ByteArray} (h1 : lessS a b = false) (h2 : lessS b a = false) : a = b := toList_inj (less_total _ _ h1 h2)
def lessA (a b : At) : Bool := if a.k = b.k then (if a.r = b.r then lessS a.x b.x else decide (a.r < b.r)) else decide (a.k < b.k)
theorem lessA_irrefl (a : At) : lessA a a = false := by unfold lessA; rw [if_pos rfl, if_pos rfl]; exact lessS_irrefl _
theorem lessA_cases {a b : At} : lessA a b = true ↔ a.k < b.k ∨ (a.k = b.k ∧ (a.r < b.r ∨ (a.r = b.r ∧ lessS a.x b.x = true))) := by
 unfold lessA
 split
 ·rename_i h
  split
  ·rename_i h2
   exact ⟨fun h3 => .inr ⟨h, .inr ⟨h2, h3⟩⟩, fun h3 => by rcases h3 with h3 | ⟨_, h3 | ⟨_, h3⟩⟩ <;> first | omega | exact h3⟩
  ·rename_i h2
   rw [decide_eq_true_eq]
   exact ⟨fun h3 => .inr ⟨h, .inl h3⟩, fun h3 => by rcases h3 with h3 | ⟨_, h3 | ⟨h4, _⟩⟩ <;> first | omega | exact absurd h4 h2⟩
 ·rename_i h
  rw [decide_eq_true_eq]
  exact ⟨.inl, fun h3 => by rcases h3 with h3 | ⟨h4, _⟩ <;> first | omega | exact absurd h4 h⟩
theorem lessA_trans {a b c : At} (h1 : lessA a b = true) (h2 : lessA b c = true) : lessA a c = true := by
 rw [lessA_cases] at *
 rcases h1 with h1 | ⟨h1, h1' | ⟨h1', h1''⟩⟩ <;> rcases h2 with h2 | ⟨h2, h2' | ⟨h2', h2''⟩⟩
 all_goals first
  | exact .inl (by omega)
  | exact .inr ⟨by omega, .inl (by omega)⟩
  | exact .inr ⟨by omega, .inr ⟨by omega, lessS_trans h1'' h2''⟩⟩
theorem lessA_total {a b : At} (h1 : lessA a b = false) (h2 : lessA b a = false) : a = b := by
 have n1 : ¬ lessA a b = true := by rw [h1]; simp
 have n2 : ¬ lessA b a = true := by rw [h2]; simp
 rw [lessA_cases] at n1 n2
 have ek : a.k = b.k := by omega
 have er : a.r = b.r := by
  rcases Int.lt_trichotomy a.r b.r with h | h | h
  ·exact absurd (.inr ⟨ek, .inl h⟩) n1
  ·exact h
  ·exact absurd (.inr ⟨ek.symm, .inl h⟩) n2
 have ex : a.x = b.x := by
  refine lessS_total ?_ ?_
  ·cases h : lessS a.x b.x with
   | false => rfl
   | true => exact absurd (.inr ⟨ek, .inr ⟨er, h⟩⟩) n1
  ·cases h : lessS b.x a.x with
   | false => rfl
   | true => exact absurd (.inr ⟨ek.symm, .inr ⟨er.symm, h⟩⟩) n2
 cases a; cases b
 simp only [At.mk.injEq]
 exact ⟨ek, er, ex⟩
theorem lessA_asym {a b : At} (h : lessA a b = true) : lessA b a = false := by
 cases h2 : lessA b a with
 | false => rfl
 | true => have := lessA_trans h h2; rw [lessA_irrefl] at this; cases this
def atomB (a : At) : Bool := if a.k = 3 then decide (a.r = 0) && Words.exnB a.x else (decide (a.k = 1) || decide (a.k = 2)) && decide (0 ≤ a.r) && decide (a.x = ByteArray.empty)
def Up (l : List At) : Prop := l.Pairwise fun a b => lessA a b = true
theorem up_uniq : ∀ {l m : List At}, Up l → Up m → (∀ a, a ∈ l ↔ a ∈ m) → l = m
 | [], [], _, _, _ => rfl
 | [], b :: m, _, _, h => by have := (h b).2 (by simp); cases this
 | a :: l, [], _, _, h => by have := (h a).1 (by simp); cases this
 | a :: l, b :: m, hl, hm, h => by
  have hl' := List.pairwise_cons.1 hl
  have hm' := List.pairwise_cons.1 hm
  have e : a = b := by
   rcases List.mem_cons.1 ((h a).1 (by simp)) with e | ha
   ·exact e
   ·rcases List.mem_cons.1 ((h b).2 (by simp)) with e | hb
    ·exact e.symm
    ·have h1 := hm'.1 a ha
     have h2 := hl'.1 b hb
     have := lessA_trans h1 h2
     rw [lessA_irrefl] at this; cases this
  subst e
  congr 1
  refine up_uniq hl'.2 hm'.2 fun x => ⟨fun hx => ?_, fun hx => ?_⟩
  ·rcases List.mem_cons.1 ((h x).1 (by simp [hx])) with e | h3
   ·subst e; have := hl'.1 x hx; rw [lessA_irrefl] at this; cases this
   ·exact h3
  ·rcases List.mem_cons.1 ((h x).2 (by simp [hx])) with e | h3
   ·subst e; have := hm'.1 x hx; rw [lessA_irrefl] at this; cases this
   ·exact h3
def insA (a : At) : List At → List At
 | [] => [a]
 | x :: xs => if lessA a x = true then a :: x :: xs else x :: insA a xs
def putA (e : List At) (a : At) : List At := if atomB a = true ∧ a ∉ e then insA a e else e
def ofA (l : List At) : List At := l.foldl putA []
theorem mem_ins (a b : At) : ∀ l, b ∈ insA a l ↔ b = a ∨ b ∈ l
 | [] => by simp [insA]
 | x :: xs => by
  unfold insA
  split
  ·simp
  ·rw [List.mem_cons, mem_ins a b xs, List.mem_cons]
   exact ⟨fun h => by rcases h with h | h | h <;> simp [h], fun h => by rcases h with h | h | h <;> simp [h]⟩
theorem up_ins {a : At} : ∀ {l : List At}, Up l → a ∉ l → Up (insA a l)
 | [], _, _ => List.pairwise_singleton _ _
 | x :: xs, h, hn => by
  have h' := List.pairwise_cons.1 h
  unfold insA
  split
  ·rename_i hl
   refine List.pairwise_cons.2 ⟨fun b hb => ?_, h⟩
   rcases List.mem_cons.1 hb with rfl | hb
   ·exact hl
   ·exact lessA_trans hl (h'.1 b hb)
  ·rename_i hl
   refine List.pairwise_cons.2 ⟨fun b hb => ?_, up_ins h'.2 fun hx => hn (by simp [hx])⟩
   rcases (mem_ins a b xs).1 hb with rfl | hb
   ·cases h3 : lessA x b with
    | true => rfl
    | false => exact absurd (by rw [lessA_total h3 (by simpa using hl)]; simp) hn
   ·exact h'.1 b hb
theorem up_put {e : List At} (h : Up e) (a : At) : Up (putA e a) := by
 unfold putA
 split
 ·rename_i hp; exact up_ins h hp.2
 ·exact h
theorem mem_put (e : List At) (a b : At) : b ∈ putA e a ↔ b ∈ e ∨ (b = a ∧ atomB a = true) := by
 unfold putA
 split
 ·rename_i hp
  rw [mem_ins]
  exact ⟨fun h => h.elim (fun h => .inr ⟨h, hp.1⟩) .inl, fun h => h.elim .inr fun h => .inl h.1⟩
 ·rename_i hp
  refine ⟨.inl, fun h => h.elim id fun ⟨h1, h2⟩ => ?_⟩
  subst h1
  exact Classical.not_not.1 fun hn => hp ⟨h2, hn⟩
theorem up_fold : ∀ (l e : List At), Up e → Up (l.foldl putA e) ∧ ∀ b, b ∈ l.foldl putA e ↔ b ∈ e ∨ (b ∈ l ∧ atomB b = true)
 | [], e, h => ⟨h, fun b => by simp⟩
 | a :: l, e, h => by
  obtain ⟨h1, h2⟩ := up_fold l (putA e a) (up_put h a)
  refine ⟨h1, fun b => ?_⟩
  show b ∈ l.foldl putA (putA e a) ↔ _
  rw [h2, mem_put, List.mem_cons]
  constructor
  ·rintro ((h | ⟨rfl, h⟩) | ⟨h, h'⟩)
   ·exact .inl h
   ·exact .inr ⟨.inl rfl, h⟩
   ·exact .inr ⟨.inr h, h'⟩
  ·rintro (h | ⟨rfl | h, h'⟩)
   ·exact .inl (.inl h)
   ·exact .inl (.inr ⟨rfl, h'⟩)
   ·exact .inr ⟨h, h'⟩
theorem up_of (l : List At) : Up (ofA l) := (up_fold l [] List.Pairwise.nil).1
theorem mem_of (l : List At) (b : At) : b ∈ ofA l ↔ b ∈ l ∧ atomB b = true := by
 have := (up_fold l [] List.Pairwise.nil).2 b
 unfold ofA
 rw [this]
 simp
theorem of_uniq {l e : List At} (hu : Up e) (hm : ∀ b, b ∈ e ↔ b ∈ l ∧ atomB b = true) : e = ofA l := up_uniq hu (up_of l) fun b => (hm b).trans (mem_of l b).symm
theorem of_congr {l m : List At} (h : ∀ b, atomB b = true → (b ∈ l ↔ b ∈ m)) : ofA l = ofA m := of_uniq (up_of l) fun b => by rw [mem_of]; exact ⟨fun ⟨h1, h2⟩ => ⟨(h b h2).1 h1, h2⟩, fun ⟨h1, h2⟩ => ⟨(h b h2).2 h1, h2⟩⟩
def cmpA (a b : At) : Int := if a.k = b.k then (if a.r = b.r then (if lessS a.x b.x = true then -1 else if lessS b.x a.x = true then 1 else 0) else if a.r < b.r then -1 else 1) else if a.k < b.k then -1 else 1
theorem cmpA_neg (a b : At) : decide (cmpA a b < 0) = lessA a b := by
 unfold cmpA lessA
 split
 ·split
  ·cases h : lessS a.x b.x <;> simp
   split <;> decide
  ·split <;> simp [*]
 ·split <;> simp [*]
theorem swoA : Sort.SWO lessA := ⟨lessA_irrefl, fun x y z => lessA_trans, fun x y z h1 h2 => by
 cases h : lessA x z with
 | false => rfl
 | true =>
  cases h3 : lessA y x with
  | true => have := lessA_trans h3 h; rw [h2] at this; cases this
  | false => rw [lessA_total h1 h3] at h; rw [h] at h2; cases h2⟩
end Effect
end Go.Proofs.YtkfkpjngiffamaaGreatDoor
namespace Go.Proofs.YtkfkpjngiffamaaGreatDoor
open Go.RowKit
namespace Words
open Chars (ret_i64 ret_bool cls el isin run spanI BytesAt Bytes bytes_new)

def sel (ss : List ByteArray) (i : Nat) : ByteArray := ss.getD i ByteArray.empty
theorem sel_mem {ss : List ByteArray} {i : Nat} (h : i < ss.length) : sel ss i ∈ ss := by
 unfold sel
 rw [List.getD_eq_getElem?_getD, List.getElem?_eq_getElem h]
 exact List.getElem_mem h
def StrsAt (w : World) (p : Option Addr) (ss : List ByteArray) : Prop :=
 ss = [] ∨ ∃ b o, p = some ⟨b, o, none⟩ ∧ ∀ i, i < ss.length → w.cell? ⟨b, o + i, none⟩ = some (.string (sel ss i))
theorem StrsAt.get {w : World} {p : Option Addr} {ss : List ByteArray} (h : StrsAt w p ss) (k : Nat) (hk : k < ss.length) :
  ∃ b o, p = some ⟨b, o, none⟩ ∧ ∀ i, i < ss.length → w.cell? ⟨b, o + i, none⟩ = some (.string (sel ss i)) := by
 rcases h with rfl | h
 ·simp at hk
 ·exact h
theorem StrsAt.below {w W : World} {p : Option Addr} {ss : List ByteArray} (h : StrsAt w p ss) (hb : Below w.heap.size w W) : StrsAt W p ss := by
 rcases h with rfl | ⟨b, o, hp, hc⟩
 ·exact .inl rfl
 ·refine .inr ⟨b, o, hp, fun i hi => ?_⟩
  have hl : b < w.heap.size := World.block_lt_of_cell? w _ (hc i hi)
  exact (hb.cell (p := ⟨b, o + i, none⟩) hl).trans (hc i hi)
theorem strs_one (w : World) (t : Nat) (s : ByteArray) : StrsAt (w.alloc (.cells #[.string s] t)) (some ⟨w.heap.size, 0, none⟩) [s] := by
 refine .inr ⟨w.heap.size, 0, rfl, fun i hi => ?_⟩
 have : i = 0 := by simp at hi; omega
 subst this
 simp [go_sem, sel]

def Sizes (ss : List ByteArray) : Prop := ∀ s ∈ ss, s.size ≤ maxLen
def Tells (c : Nat) (P : ByteArray → Bool) (w : World) : Prop :=
 ∀ (W : World) (s : ByteArray), Below w.heap.size w W → s.size ≤ maxLen → Calls Tryz.prog c #[.string s] W fun e w' => e = .returned (.bool (P s)) ∧ Below W.heap.size W w'

theorem all_no {ss : List ByteArray} {P : ByteArray → Bool} {k : Nat} (hk : k < ss.length) (h : P (sel ss k) = false) : ss.all P = false := by
 rw [Bool.eq_false_iff]
 intro ha
 have := List.all_eq_true.1 ha _ (sel_mem hk)
 rw [h] at this
 cases this
theorem all_yes {ss : List ByteArray} {P : ByteArray → Bool} (h : ∀ j, j < ss.length → P (sel ss j) = true) : ss.all P = true := by
 rw [List.all_eq_true]
 intro s hs
 obtain ⟨i, hi, e⟩ := List.getElem_of_mem hs
 have := h i hi
 unfold sel at this
 rw [List.getD_eq_getElem?_getD, List.getElem?_eq_getElem hi] at this
 rw [← e]
 exact this

set_option maxHeartbeats 400000 in
theorem all_name_walk (p : Option Addr) (n d : Nat) (ss : List ByteArray) (P : ByteArray → Bool) (w : World) (hn : ss.length = n) (hm : n ≤ maxLen) (hp : StrsAt w p ss) (hz : Sizes ss) (hc : Tells 132 P w) :
  Calls Tryz.prog 131 #[.slice p n d, .func (.func 132) #[] #[]] w fun e w' => e = .returned (.bool (ss.all P)) ∧ Below w.heap.size w w' := by
 unfold maxLen at hm
 have HN := Lib.hid hn; have HP := Lib.hid hp; have HZ := Lib.hid hz; have HC := Lib.hid hc
 clear hn hp hz hc
 go_enter Tryz.func131, Tryz.ntmps131
 go_wp2
 go_loopw [6, 9] (fun _ i wr => ∃ k : Nat, k ≤ n ∧ i = .int .i64 k ∧ (∀ j, j < k → P (sel ss j) = true) ∧ Below w.heap.size w wr) (fun _ i _ => n - (intOf i).toNat)
 case atStart => exact ⟨0, by omega, rfl, fun j hj => by omega, Below.refl _ _⟩
 case round =>
  obtain ⟨k, hk, rfl, ha, hb⟩ := hrel
  have HA := Lib.hid ha; have HB := Lib.hid hb
  clear ha hb
  by_cases hlt : k < n
  ·have hk' : k < ss.length := by rw [HN.out]; exact hlt
   obtain ⟨b, o, rfl, hcs⟩ := (HP.out.below HB.out).get k hk'
   have hck := hcs k hk'
   have hsz := HZ.out _ (sel_mem hk')
   have HSZ := Lib.hid hsz; have HK := Lib.hid hk'
   clear hcs hsz hk'
   go_wp2_with (fail)
   refine (HC.out _ (sel ss k) HB.out HSZ.out).mono ?_
   rintro e w' ⟨rfl, hb2⟩
   have HB2 := Lib.hid (HB.out.trans (hb2.mono HB.out.size)); clear hb2
   cases ht : P (sel ss k)
   ·have HT := Lib.hid ht; clear ht
    go_wp2
    go_ret
    exact ⟨ret_bool (all_no HK.out HT.out).symm, HB2.out⟩
   ·have HT := Lib.hid ht; clear ht
    go_wp2
    go_roundw
    case rel =>
     refine ⟨k + 1, by omega, by go_num, fun j hj => ?_, HB2.out⟩
     by_cases hjk : j = k
     ·rw [hjk]; exact HT.out
     ·exact HA.out j (by omega)
    case measure => simp [intOf]; omega
  ·go_wp2
   go_ret
   refine ⟨ret_bool (all_yes fun j hj => HA.out j ?_).symm, HB.out⟩
   have := HN.out
   omega

set_option maxHeartbeats 400000 in
theorem all_exn_walk (p : Option Addr) (n d : Nat) (ss : List ByteArray) (P : ByteArray → Bool) (w : World) (hn : ss.length = n) (hm : n ≤ maxLen) (hp : StrsAt w p ss) (hz : Sizes ss) (hc : Tells 135 P w) :
  Calls Tryz.prog 131 #[.slice p n d, .func (.func 135) #[] #[]] w fun e w' => e = .returned (.bool (ss.all P)) ∧ Below w.heap.size w w' := by
 unfold maxLen at hm
 have HN := Lib.hid hn; have HP := Lib.hid hp; have HZ := Lib.hid hz; have HC := Lib.hid hc
 clear hn hp hz hc
 go_enter Tryz.func131, Tryz.ntmps131
 go_wp2
 go_loopw [6, 9] (fun _ i wr => ∃ k : Nat, k ≤ n ∧ i = .int .i64 k ∧ (∀ j, j < k → P (sel ss j) = true) ∧ Below w.heap.size w wr) (fun _ i _ => n - (intOf i).toNat)
 case atStart => exact ⟨0, by omega, rfl, fun j hj => by omega, Below.refl _ _⟩
 case round =>
  obtain ⟨k, hk, rfl, ha, hb⟩ := hrel
  have HA := Lib.hid ha; have HB := Lib.hid hb
  clear ha hb
  by_cases hlt : k < n
  ·have hk' : k < ss.length := by rw [HN.out]; exact hlt
   obtain ⟨b, o, rfl, hcs⟩ := (HP.out.below HB.out).get k hk'
   have hck := hcs k hk'
   have hsz := HZ.out _ (sel_mem hk')
   have HSZ := Lib.hid hsz; have HK := Lib.hid hk'
   clear hcs hsz hk'
   go_wp2_with (fail)
   refine (HC.out _ (sel ss k) HB.out HSZ.out).mono ?_
   rintro e w' ⟨rfl, hb2⟩
   have HB2 := Lib.hid (HB.out.trans (hb2.mono HB.out.size)); clear hb2
   cases ht : P (sel ss k)
   ·have HT := Lib.hid ht; clear ht
    go_wp2
    go_ret
    exact ⟨ret_bool (all_no HK.out HT.out).symm, HB2.out⟩
   ·have HT := Lib.hid ht; clear ht
    go_wp2
    go_roundw
    case rel =>
     refine ⟨k + 1, by omega, by go_num, fun j hj => ?_, HB2.out⟩
     by_cases hjk : j = k
     ·rw [hjk]; exact HT.out
     ·exact HA.out j (by omega)
    case measure => simp [intOf]; omega
  ·go_wp2
   go_ret
   refine ⟨ret_bool (all_yes fun j hj => HA.out j ?_).symm, HB.out⟩
   have := HN.out
   omega

theorem name1_walk (s : ByteArray) (w : World) (hs : s.size ≤ maxLen) (hl : KwLaid w) :
  Calls Tryz.prog 132 #[.string s] w fun e w' => e = .returned (.bool (nameB s)) ∧ Below w.heap.size w w' := by
 have hk := keyword_walk s
 have HK := Lib.hid hk; have HL := Lib.hid hl
 clear hk hl
 cases hw : wordB 3 (ints s.data.toList)
 ·have hr : nameB s = false := by unfold nameB; rw [hw]; rfl
  have HR := Lib.hid hr; have HW := Lib.hid hw
  clear hr hw
  go_enter Tryz.func132, Tryz.ntmps132
  go_wp2_with (fail)
  refine (begins_walk s 3 _ hs).mono ?_
  rw [HW.out]
  rintro e w' ⟨rfl, hb⟩
  have HB := Lib.hid hb; clear hb
  go_wp2
  go_ret
  exact ⟨ret_bool HR.out.symm, HB.out⟩
 ·have hr : nameB s = ((kwN s.data.toList : Int) == 0) := by
   unfold nameB; rw [hw, Bool.true_and, Bool.eq_iff_iff]; simp
  have HR := Lib.hid hr; have HW := Lib.hid hw
  clear hr hw
  go_enter Tryz.func132, Tryz.ntmps132
  go_wp2_with (fail)
  refine (begins_walk s 3 _ hs).mono ?_
  rw [HW.out]
  rintro e w' ⟨rfl, hb⟩
  have HB := Lib.hid hb; clear hb
  go_wp2_with (fail)
  refine (HK.out _ (HL.out.below HB.out)).mono ?_
  rintro e w2 ⟨rfl, rfl⟩
  generalize kwN s.data.toList = N at *
  go_wp2
  go_ret
  exact ⟨ret_bool HR.out.symm, HB.out⟩

theorem exn1_walk (s : ByteArray) (w : World) (hs : s.size ≤ maxLen) :
  Calls Tryz.prog 135 #[.string s] w fun e w' => e = .returned (.bool (exnB s)) ∧ Below w.heap.size w w' := by
 go_enter Tryz.func135, Tryz.ntmps135
 go_wp2_with (fail)
 refine (begins_walk s 4 _ hs).mono ?_
 rintro e w' ⟨rfl, hb⟩
 have HB := Lib.hid hb; clear hb
 go_wp2
 go_ret
 exact ⟨rfl, HB.out⟩

theorem name_walk (p : Option Addr) (n d : Nat) (ss : List ByteArray) (w : World) (hn : ss.length = n) (hm : n ≤ maxLen) (hp : StrsAt w p ss) (hz : Sizes ss) (hl : KwLaid w) :
  Calls Tryz.prog 117 #[.slice p n d] w fun e w' => e = .returned (.bool (ss.all nameB)) ∧ Below w.heap.size w w' := by
 have hc : Tells 132 nameB w := fun W s hb hs => name1_walk s W hs (hl.below hb)
 have HN := Lib.hid hn; have HP := Lib.hid hp; have HZ := Lib.hid hz; have HC := Lib.hid hc
 clear hn hp hz hc hl
 go_enter Tryz.func117, Tryz.ntmps117
 go_wp2_with (fail)
 refine (all_name_walk p n d ss nameB _ HN.out hm HP.out HZ.out HC.out).mono ?_
 rintro e w' ⟨rfl, hb⟩
 have HB := Lib.hid hb; clear hb
 go_wp2
 go_ret
 exact ⟨rfl, HB.out⟩
theorem exn_walk (p : Option Addr) (n d : Nat) (ss : List ByteArray) (w : World) (hn : ss.length = n) (hm : n ≤ maxLen) (hp : StrsAt w p ss) (hz : Sizes ss) :
  Calls Tryz.prog 118 #[.slice p n d] w fun e w' => e = .returned (.bool (ss.all exnB)) ∧ Below w.heap.size w w' := by
 have hc : Tells 135 exnB w := fun W s hb hs => exn1_walk s W hs
 have HN := Lib.hid hn; have HP := Lib.hid hp; have HZ := Lib.hid hz; have HC := Lib.hid hc
 clear hn hp hz hc
 go_enter Tryz.func118, Tryz.ntmps118
 go_wp2_with (fail)
 refine (all_exn_walk p n d ss exnB _ HN.out hm HP.out HZ.out HC.out).mono ?_
 rintro e w' ⟨rfl, hb⟩
 have HB := Lib.hid hb; clear hb
 go_wp2
 go_ret
 exact ⟨rfl, HB.out⟩
theorem name_one (s : ByteArray) (t : Nat) (w : World) (hs : s.size ≤ maxLen) (hl : KwLaid w) :
  Calls Tryz.prog 117 #[.slice (some ⟨w.heap.size, 0, none⟩) 1 1] (w.alloc (.cells #[.string s] t)) fun e w' => e = .returned (.bool (nameB s)) ∧ Below w.heap.size w w' := by
 have hb0 : Below w.heap.size w (w.alloc (.cells #[.string s] t)) := (Below.refl _ _).alloc (Nat.le_refl _) _
 refine (name_walk _ 1 1 [s] _ rfl (by unfold maxLen; omega) (strs_one w t s) (fun x hx => by simp at hx; rw [hx]; exact hs) (hl.below hb0)).mono ?_
 rintro e w' ⟨rfl, hb⟩
 exact ⟨ret_bool (by simp), hb0.trans (hb.mono hb0.size)⟩
theorem exn_one (s : ByteArray) (t : Nat) (w : World) (hs : s.size ≤ maxLen) :
  Calls Tryz.prog 118 #[.slice (some ⟨w.heap.size, 0, none⟩) 1 1] (w.alloc (.cells #[.string s] t)) fun e w' => e = .returned (.bool (exnB s)) ∧ Below w.heap.size w w' := by
 have hb0 : Below w.heap.size w (w.alloc (.cells #[.string s] t)) := (Below.refl _ _).alloc (Nat.le_refl _) _
 refine (exn_walk _ 1 1 [s] _ rfl (by unfold maxLen; omega) (strs_one w t s) (fun x hx => by simp at hx; rw [hx]; exact hs)).mono ?_
 rintro e w' ⟨rfl, hb⟩
 exact ⟨ret_bool (by simp), hb0.trans (hb.mono hb0.size)⟩
theorem name_at (s : ByteArray) (t N : Nat) (w : World) (hN : N = w.heap.size) (hs : s.size ≤ maxLen) (hl : KwLaid w) :
  Calls Tryz.prog 117 #[.slice (some ⟨N, 0, none⟩) 1 1] (w.alloc (.cells #[.string s] t)) fun e w' => e = .returned (.bool (nameB s)) ∧ Below w.heap.size w w' := by
 subst hN
 exact name_one s t w hs hl
theorem exn_at (s : ByteArray) (t N : Nat) (w : World) (hN : N = w.heap.size) (hs : s.size ≤ maxLen) :
  Calls Tryz.prog 118 #[.slice (some ⟨N, 0, none⟩) 1 1] (w.alloc (.cells #[.string s] t)) fun e w' => e = .returned (.bool (exnB s)) ∧ Below w.heap.size w w' := by
 subst hN
 exact exn_one s t w hs
end Words
end Go.Proofs.YtkfkpjngiffamaaGreatDoor

namespace Go.Proofs.YtkfkpjngiffamaaGreatDoor
open Go.RowKit
set_option linter.unusedVariables false
set_option linter.unusedSimpArgs false
namespace Effect

def enc (a : At) : List Value := [.int .u8 a.k, .int .i64 a.r, .string a.x]
structure AtOk (a : At) : Prop where
 k : 0 ≤ a.k ∧ a.k ≤ 255
 r : -9223372036854775808 ≤ a.r ∧ a.r ≤ 9223372036854775807
 x : a.x.size ≤ maxLen
def flat (l : List At) : List Value := l.flatMap enc
theorem flat_cons (a : At) (l : List At) : flat (a :: l) = enc a ++ flat l := rfl
theorem flat_append (l m : List At) : flat (l ++ m) = flat l ++ flat m := by unfold flat; rw [List.flatMap_append]
theorem flat_len : ∀ l, (flat l).length = l.length * 3
 | [] => rfl
 | a :: l => by rw [flat_cons, List.length_append, flat_len l, List.length_cons]; show 3 + _ = _; omega
def aget (l : List At) (i : Nat) : At := l.getD i default
theorem aget_at {l : List At} {i : Nat} (h : i < l.length) : l[i]? = some (aget l i) := by
 unfold aget; rw [List.getD_eq_getElem?_getD, List.getElem?_eq_getElem h]; rfl
theorem aget_mem {l : List At} {i : Nat} (h : i < l.length) : aget l i ∈ l := List.mem_of_getElem? (aget_at h)
theorem flat_get : ∀ (l : List At) (i : Nat), i < l.length → ∀ j, j < 3 → (flat l)[i * 3 + j]? = (enc (aget l i))[j]?
 | a :: l, 0, _, j, hj => by
  rw [flat_cons, Nat.zero_mul, Nat.zero_add, List.getElem?_append_left (by show j < 3; exact hj)]; rfl
 | a :: l, i + 1, h, j, hj => by
  rw [flat_cons, List.getElem?_append_right (by show 3 ≤ _; omega)]
  have := flat_get l i (by simpa using h) j hj
  rw [show (i + 1) * 3 + j - (enc a).length = i * 3 + j by show (i + 1) * 3 + j - 3 = _; omega, this]
  rfl
def AtsAt (w : World) (p : Option Addr) (l : List At) : Prop := l = [] ∨ ∃ b o, p = some ⟨b, o, none⟩ ∧ ∀ i, i < l.length → w.cell? ⟨b, o + i * 3, none⟩ = some (.int .u8 (aget l i).k) ∧ w.cell? ⟨b, o + i * 3 + 1, none⟩ = some (.int .i64 (aget l i).r) ∧ w.cell? ⟨b, o + i * 3 + 2, none⟩ = some (.string (aget l i).x)
theorem AtsAt.below {w W : World} {p : Option Addr} {l : List At} (h : AtsAt w p l) (hb : Below w.heap.size w W) : AtsAt W p l := by
 rcases h with rfl | ⟨b, o, hp, hc⟩
 ·exact .inl rfl
 ·refine .inr ⟨b, o, hp, fun i hi => ?_⟩
  obtain ⟨h0, h1, h2⟩ := hc i hi
  have hl : b < w.heap.size := World.block_lt_of_cell? w _ h0
  exact ⟨(hb.cell (p := ⟨b, _, none⟩) hl).trans h0, (hb.cell (p := ⟨b, _, none⟩) hl).trans h1, (hb.cell (p := ⟨b, _, none⟩) hl).trans h2⟩
theorem AtsAt.get {w : World} {p : Option Addr} {l : List At} (h : AtsAt w p l) (i : Nat) (hi : i < l.length) : ∃ b o, p = some ⟨b, o, none⟩ ∧ w.cell? ⟨b, o + i * 3, none⟩ = some (.int .u8 (aget l i).k) ∧ w.cell? ⟨b, o + i * 3 + 1, none⟩ = some (.int .i64 (aget l i).r) ∧ w.cell? ⟨b, o + i * 3 + 2, none⟩ = some (.string (aget l i).x) := by
 rcases h with rfl | ⟨b, o, hp, hc⟩
 ·simp at hi
 ·exact ⟨b, o, hp, hc i hi⟩
theorem own_slice {w : World} {base e size n : Nat} {v : Value} {xs : List Value} (h : w.ownsRow base e size v n xs) : ∃ a c, v = .slice a n c ∧ c ≤ maxLen ∧ n ≤ c := by
 rcases h.2 with ⟨hv, h0⟩ | ⟨g, cap, _, hv, _, _, h1, h2, _⟩
 ·subst h0; exact ⟨none, 0, hv, by unfold maxLen; omega, Nat.le_refl _⟩
 ·exact ⟨_, cap, hv, h2, h1⟩
theorem own_below {W W' : World} {B e s n : Nat} {v : Value} {xs : List Value} (h : W.ownsRow B e s v n xs) (hb : Below W.heap.size W W') : W'.ownsRow B e s v n xs := by
 refine ⟨h.1, h.2.imp id ?_⟩
 rintro ⟨g, cap, cur, rfl, hg, hh, r⟩
 exact ⟨g, cap, cur, rfl, hg, (hb.block g (by
  rcases Nat.lt_or_ge g W.heap.size with q | q
  ·exact q
  ·rw [Array.getElem?_eq_none q] at hh; cases hh)).trans hh, r⟩
theorem own_lower {W : World} {B B' e s n : Nat} {v : Value} {xs : List Value} (h : W.ownsRow B e s v n xs) (hB : B' ≤ B) : W.ownsRow B' e s v n xs :=
 ⟨h.1, h.2.imp id fun ⟨g, cap, cur, h1, h2, h3⟩ => ⟨g, cap, cur, h1, Nat.le_trans hB h2, h3⟩⟩
theorem AtsAt.of_own {W : World} {B n c : Nat} {a : Option Addr} {l : List At} (hn : l.length = n) (h : W.ownsRow B 67 3 (.slice a n c) n (flat l)) : AtsAt W a l := by
 subst hn
 by_cases h0 : l = []
 ·exact .inl h0
 ·have hpos : 0 < l.length := List.length_pos_iff.2 h0
  rcases h.2 with ⟨_, h0'⟩ | ⟨g, cap, cur, hv, _⟩
  ·omega
  ·injection hv with hv1 hv2 hv3
   subst hv1
   have key : ∀ i, i < l.length → ∀ j, j < 3 → ∀ u, (enc (aget l i))[j]? = some u → W.cell? ⟨g, i * 3 + j, none⟩ = some u := fun i hi j hj u hu => by
    have := h.cells (g := g) rfl (i * 3 + j) u (by rw [flat_get l i hi j hj]; exact hu)
    rw [Addr.add_lit] at this
    simpa using this
   refine .inr ⟨g, 0, rfl, fun i hi => ?_⟩
   rw [Nat.zero_add]
   exact ⟨key i hi 0 (by omega) _ rfl, key i hi 1 (by omega) _ rfl, key i hi 2 (by omega) _ rfl⟩
theorem lt_of_block {w : World} {b : Nat} {o : Obj} (h : w.heap[b]? = some o) : b < w.heap.size := by
 rcases Nat.lt_or_ge b w.heap.size with q | q
 ·exact q
 ·rw [Array.getElem?_eq_none q] at h; cases h
theorem heap_alloc_new (W : World) (o : Obj) : (W.alloc o).heap[W.heap.size]? = some o := by
 show (W.heap.push o)[W.heap.size]? = some o
 rw [Array.getElem?_push]; simp
theorem c3 {W : World} {N : Nat} {a b c : Value} {ty : TypeId} (h : W.heap[N]? = some (.cells #[a, b, c] ty (0, 0))) :
  (W.cell? ⟨N, 0, none⟩ = some a ∧ W.cell? ⟨N, 1, none⟩ = some b ∧ W.cell? ⟨N, 2, none⟩ = some c) ∧ (W.frozen? ⟨N, 0, none⟩ = false ∧ W.frozen? ⟨N, 1, none⟩ = false ∧ W.frozen? ⟨N, 2, none⟩ = false) ∧ N < W.heap.size := by
 refine ⟨?_, ?_, lt_of_block h⟩ <;> simp [World.cell?, World.frozen?, h]
theorem al_new {W : World} (o : Obj) : Below W.heap.size W (W.alloc o) := (Below.refl _ _).alloc (Nat.le_refl _) o
theorem at_new {w : World} {o : Obj} {N : Nat} (hN : N = w.heap.size) : (w.alloc o).heap[N]? = some o := by subst hN; exact heap_alloc_new w o
theorem at_more {w : World} {o o' : Obj} {N : Nat} (h : w.heap[N]? = some o) : (w.alloc o').heap[N]? = some o := ((al_new o').block _ (lt_of_block h)).trans h
theorem below_then {B : Nat} {a w1 w2 : World} (h : Below B a w1) (hb : Below w1.heap.size w1 w2) (hB : B ≤ w1.heap.size) : Below B a w2 := h.trans (hb.mono hB)
theorem below_row {B : Nat} {a w1 w2 : World} {O : Obj} (h : Below B a w1) (hb : Below (w1.alloc O).heap.size (w1.alloc O) w2) (hB : B ≤ w1.heap.size) : Below B a w2 := h.trans (((al_new O).trans (hb.mono (by simp))).mono hB)
theorem ret_bool {a b : Bool} (h : a = b) : Ending.returned (.bool a) = .returned (.bool b) := by rw [h]
theorem ret_i64 {a b : Int} (h : a = b) : Ending.returned (.int .i64 a) = .returned (.int .i64 b) := by rw [h]
theorem emp (x : ByteArray) : decide (x = ByteArray.empty) = x.toList.isEmpty := by
 by_cases h : x = ByteArray.empty
 ·rw [decide_eq_true h, h, Lib.toList_data]; rfl
 ·rw [decide_eq_false h]
  symm
  rw [List.isEmpty_eq_false_iff]
  intro e
  exact h (toList_inj (e.trans (by rw [Lib.toList_data]; rfl)))
set_option maxHeartbeats 3200000 in
theorem odd_walk (a : At) (w : World) (hx : a.x.size ≤ maxLen) : Calls Tryz.prog 121 #[.agg #[.int .u8 a.k, .int .i64 a.r, .string a.x]] w fun e w' => e = .returned (.bool (!atomB a)) ∧ Below w.heap.size w w' := by
 have hat : ∀ b, atomB a = b → (!atomB a) = !b := fun b h => by rw [h]
 unfold atomB at hat
 obtain ⟨k, r, x⟩ := a
 have HB := Lib.hid (fun O => al_new (W := w) O)
 simp only at hat hx
 by_cases h3 : k = 3
 ·subst h3
  rw [if_pos rfl] at hat
  by_cases hr : r = 0
  ·subst hr
   have hex := fun O N (hN : N = (w.alloc O).heap.size) => Words.exn_at x 9 N (w.alloc O) hN hx
   have ha : (!Words.exnB x) = !(if (3 : Int) = 3 then decide ((0 : Int) = 0) && Words.exnB x else (decide ((3 : Int) = 1) || decide ((3 : Int) = 2)) && decide ((0 : Int) ≤ 0) && decide (x = ByteArray.empty)) := by simp
   have HE := Lib.hid hex; have HA := Lib.hid ha
   clear hex hat hx ha
   go_enter Tryz.func121, Tryz.ntmps121
   go_wp2_with (fail)
   refine (HE.out _ _ (by simp)).mono ?_
   rintro e w1 ⟨rfl, hb1⟩
   have H1 := Lib.hid (below_then (HB.out _) hb1 (by simp))
   clear hb1
   go_wp2_with (fail)
   go_ret
   exact ⟨ret_bool (by unfold atomB; exact HA.out), H1.out⟩
  ·have hr1 : (r == 0) = false := by simpa using hr
   have ha : true = !(if (3 : Int) = 3 then decide (r = 0) && Words.exnB x else (decide ((3 : Int) = 1) || decide ((3 : Int) = 2)) && decide (0 ≤ r) && decide (x = ByteArray.empty)) := by simp [hr]
   have HA := Lib.hid ha
   clear hat hx ha hr
   have hr2 : (r != 0) = true := by rw [bne, hr1]; rfl
   go_enter Tryz.func121, Tryz.ntmps121
   go_wp2_with (fail)
   go_ret
   exact ⟨ret_bool (by unfold atomB; exact HA.out), HB.out _⟩
 ·have h3' : (k == 3) = false := by simpa using h3
  by_cases h12 : k = 1 ∨ k = 2
  ·by_cases hr : r < 0
   ·have ha : true = !(if k = 3 then decide (r = 0) && Words.exnB x else (decide (k = 1) || decide (k = 2)) && decide (0 ≤ r) && decide (x = ByteArray.empty)) := by rw [if_neg h3, decide_eq_false (show ¬ 0 ≤ r by omega)]; simp
    have HA := Lib.hid ha
    clear hat hx ha h3
    rcases h12 with rfl | rfl
    all_goals
     go_enter Tryz.func121, Tryz.ntmps121
     go_wp2_with (fail)
     go_ret
     exact ⟨ret_bool (by unfold atomB; exact HA.out), HB.out _⟩
   ·have ha : (!x.toList.isEmpty) = !(if k = 3 then decide (r = 0) && Words.exnB x else (decide (k = 1) || decide (k = 2)) && decide (0 ≤ r) && decide (x = ByteArray.empty)) := by rw [if_neg h3, ← emp x, decide_eq_true (show 0 ≤ r by omega)]; rcases h12 with rfl | rfl <;> simp
    have HA := Lib.hid ha
    clear hat hx ha h3
    rcases h12 with rfl | rfl
    all_goals
     go_enter Tryz.func121, Tryz.ntmps121
     go_wp2_with (fail)
     go_ret
     exact ⟨ret_bool (by unfold atomB; exact HA.out), HB.out _⟩
  ·have h1' : (k == 1) = false := by simp; omega
   have h2' : (k == 2) = false := by simp; omega
   have ha : true = !(if k = 3 then decide (r = 0) && Words.exnB x else (decide (k = 1) || decide (k = 2)) && decide (0 ≤ r) && decide (x = ByteArray.empty)) := by rw [if_neg h3, decide_eq_false (show ¬ k = 1 by omega), decide_eq_false (show ¬ k = 2 by omega)]; rfl
   have HA := Lib.hid ha
   clear hat hx ha h3 h12
   go_enter Tryz.func121, Tryz.ntmps121
   go_wp2_with (fail)
   go_ret
   exact ⟨ret_bool (by unfold atomB; exact HA.out), HB.out _⟩
set_option maxHeartbeats 1600000 in
theorem nanU_walk (k : Int) (w : World) : Calls Tryz.prog 157 #[.int .u8 k] w fun e w' => e = .returned (.bool false) ∧ w' = w := by
 have h : (k != k) = false := by simp
 go_enter Tryz.func157, Tryz.ntmps157
 go_wp2
 go_ret
 exact ⟨rfl, rfl⟩
set_option maxHeartbeats 1600000 in
theorem nanS_walk (k : ByteArray) (w : World) : Calls Tryz.prog 159 #[.string k] w fun e w' => e = .returned (.bool false) ∧ w' = w := by
 have h : (k.toList == k.toList) = true := by simp
 go_enter Tryz.func159, Tryz.ntmps159
 go_wp2
 go_ret
 exact ⟨rfl, rfl⟩
def cmpI (x y : Int) : Int := if x < y then -1 else if y < x then 1 else 0
def cmpS (x y : ByteArray) : Int := if lessS x y = true then -1 else if lessS y x = true then 1 else 0
set_option maxRecDepth 100000 in
set_option maxHeartbeats 3200000 in
theorem cmpU_walk (x y : Int) (w : World) : Calls Tryz.prog 139 #[.int .u8 x, .int .u8 y] w fun e w' => e = .returned (.int .i64 (cmpI x y)) ∧ w' = w := by
 have HX := Lib.hid (fun W => nanU_walk x W); have HY := Lib.hid (fun W => nanU_walk y W)
 have HC := Lib.hid (show cmpI x y = if x < y then -1 else if y < x then 1 else 0 from rfl)
 rcases Int.lt_trichotomy x y with h | h | h
 ·have H := Lib.hid h
  go_enter Tryz.func139, Tryz.ntmps139
  go_wp2_with (fail)
  refine (HX.out _).mono ?_
  rintro e w1 ⟨rfl, rfl⟩
  go_wp2_with (fail)
  refine (HY.out _).mono ?_
  rintro e w1 ⟨rfl, rfl⟩
  go_wp2_with (fail)
  go_ret
  refine ⟨ret_i64 ?_, rfl⟩
  rw [HC.out]
  rw [if_pos H.out]
 ·subst h
  go_enter Tryz.func139, Tryz.ntmps139
  go_wp2_with (fail)
  refine (HX.out _).mono ?_
  rintro e w1 ⟨rfl, rfl⟩
  go_wp2_with (fail)
  refine (HY.out _).mono ?_
  rintro e w1 ⟨rfl, rfl⟩
  go_wp2_with (fail)
  go_ret
  refine ⟨ret_i64 ?_, rfl⟩
  rw [HC.out]
  rw [if_neg (by omega), if_neg (by omega)]
 ·have H := Lib.hid h
  go_enter Tryz.func139, Tryz.ntmps139
  go_wp2_with (fail)
  refine (HX.out _).mono ?_
  rintro e w1 ⟨rfl, rfl⟩
  go_wp2_with (fail)
  refine (HY.out _).mono ?_
  rintro e w1 ⟨rfl, rfl⟩
  go_wp2_with (fail)
  go_ret
  refine ⟨ret_i64 ?_, rfl⟩
  rw [HC.out]
  rw [if_neg (by have := H.out; omega), if_pos H.out]
set_option maxHeartbeats 3200000 in
theorem cmpS_walk (x y : ByteArray) (w : World) : Calls Tryz.prog 141 #[.string x, .string y] w fun e w' => e = .returned (.int .i64 (cmpS x y)) ∧ w' = w := by
 have HX := Lib.hid (fun W => nanS_walk x W); have HY := Lib.hid (fun W => nanS_walk y W)
 have hc : cmpS x y = if lessS x y = true then -1 else if lessS y x = true then 1 else 0 := rfl
 unfold lessS at hc
 have HC := Lib.hid hc
 cases h1 : Op.bytesLess x.toList y.toList
 ·cases h2 : Op.bytesLess y.toList x.toList
  ·have he : (x.toList == y.toList) = true := by rw [less_total _ _ h1 h2]; simp
   clear hc
   go_enter Tryz.func141, Tryz.ntmps141
   go_wp2_with (fail)
   refine (HX.out _).mono ?_
   rintro e w1 ⟨rfl, rfl⟩
   go_wp2_with (fail)
   refine (HY.out _).mono ?_
   rintro e w1 ⟨rfl, rfl⟩
   go_wp2_with (fail)
   go_ret
   refine ⟨ret_i64 ?_, rfl⟩
   rw [HC.out, h1, h2]
   rfl
  ·have he : (x.toList == y.toList) = false := by
    rw [beq_eq_false_iff_ne]; intro e; rw [e, less_irrefl] at h2; cases h2
   clear hc
   go_enter Tryz.func141, Tryz.ntmps141
   go_wp2_with (fail)
   refine (HX.out _).mono ?_
   rintro e w1 ⟨rfl, rfl⟩
   go_wp2_with (fail)
   refine (HY.out _).mono ?_
   rintro e w1 ⟨rfl, rfl⟩
   go_wp2_with (fail)
   go_ret
   refine ⟨ret_i64 ?_, rfl⟩
   rw [HC.out, h1, h2]
   rfl
 ·clear hc
  go_enter Tryz.func141, Tryz.ntmps141
  go_wp2_with (fail)
  refine (HX.out _).mono ?_
  rintro e w1 ⟨rfl, rfl⟩
  go_wp2_with (fail)
  refine (HY.out _).mono ?_
  rintro e w1 ⟨rfl, rfl⟩
  go_wp2_with (fail)
  go_ret
  refine ⟨ret_i64 ?_, rfl⟩
  rw [HC.out, h1]
  rfl
end Effect
end Go.Proofs.YtkfkpjngiffamaaGreatDoor
namespace Go.Proofs.YtkfkpjngiffamaaGreatDoor
open Go.RowKit Go.Sort
set_option linter.unusedVariables false
set_option linter.unusedSimpArgs false
namespace Effect

def or3 (a b c : Int) : Int := if a ≠ 0 then a else if b ≠ 0 then b else c
theorem cmpA_or (a b : At) : cmpA a b = or3 (cmpI a.k b.k) (cmpI a.r b.r) (cmpS a.x b.x) := by
 unfold cmpA or3 cmpI cmpS
 have z : ¬ ((0 : Int) ≠ 0) := by simp
 by_cases hk : a.k = b.k
 ·rw [if_pos hk]
  by_cases hr : a.r = b.r
  ·rw [if_pos hr, if_neg (show ¬ a.k < b.k by omega), if_neg (show ¬ b.k < a.k by omega), if_neg z, if_neg (show ¬ a.r < b.r by omega), if_neg (show ¬ b.r < a.r by omega), if_neg z]
  ·rw [if_neg hr, if_neg (show ¬ a.k < b.k by omega), if_neg (show ¬ b.k < a.k by omega), if_neg z]
   by_cases h : a.r < b.r
   ·rw [if_pos h, if_pos h]; rfl
   ·rw [if_neg h, if_neg h, if_pos (show b.r < a.r by omega)]; rfl
 ·rw [if_neg hk]
  by_cases h : a.k < b.k
  ·rw [if_pos h, if_pos h]; rfl
  ·rw [if_neg h, if_neg h, if_pos (show b.k < a.k by omega)]; rfl
set_option maxHeartbeats 3200000 in
theorem or_walk (N : Nat) (a b c : Int) (w : World) (ty : TypeId) (h : w.heap[N]? = some (.cells #[.int .i64 a, .int .i64 b, .int .i64 c] ty (0, 0))) : Calls Tryz.prog 138 #[.slice (some ⟨N, 0, none⟩) 3 3] w fun e w' => e = .returned (.int .i64 (or3 a b c)) ∧ w' = w := by
 obtain ⟨⟨c0, c1, c2⟩, -, -⟩ := c3 h
 have HO := Lib.hid (show or3 a b c = if a ≠ 0 then a else if b ≠ 0 then b else c from rfl)
 clear h
 by_cases ha : a = 0
 ·by_cases hb : b = 0
  ·by_cases hc : c = 0
   ·subst ha hb hc
    go_enter Tryz.func138, Tryz.ntmps138
    go_wp2
    refine wp_loop_rounds 4 ?_
    iterate 4 (rw [rounds_succ]; go_wp2)
    all_goals go_ret
    all_goals exact ⟨ret_i64 (by rw [HO.out]; rfl), rfl⟩
   ·have hc' : (c == 0) = false := by simpa using hc
    have hc2 : (c != 0) = true := by rw [bne, hc']; rfl
    subst ha hb
    have H := Lib.hid hc
    clear hc
    go_enter Tryz.func138, Tryz.ntmps138
    go_wp2
    refine wp_loop_rounds 4 ?_
    iterate 4 (try (rw [rounds_succ]; go_wp2))
    all_goals go_ret
    all_goals exact ⟨ret_i64 (by rw [HO.out]; simp), rfl⟩
  ·have hc' : (b == 0) = false := by simpa using hb
   have hc2 : (b != 0) = true := by rw [bne, hc']; rfl
   subst ha
   have H := Lib.hid hb
   clear hb
   go_enter Tryz.func138, Tryz.ntmps138
   go_wp2
   refine wp_loop_rounds 4 ?_
   iterate 4 (try (rw [rounds_succ]; go_wp2))
   all_goals go_ret
   all_goals exact ⟨ret_i64 (by rw [HO.out, if_neg (by simp), if_pos H.out]), rfl⟩
 ·have hc' : (a == 0) = false := by simpa using ha
  have hc2 : (a != 0) = true := by rw [bne, hc']; rfl
  have H := Lib.hid ha
  clear ha
  go_enter Tryz.func138, Tryz.ntmps138
  go_wp2
  refine wp_loop_rounds 4 ?_
  iterate 4 (try (rw [rounds_succ]; go_wp2))
  all_goals go_ret
  all_goals exact ⟨ret_i64 (by rw [HO.out, if_pos H.out]), rfl⟩
theorem cmpI_lib (x y : Int) : Lib.compareInt x y = cmpI x y := by
 unfold Lib.compareInt cmpI
 rcases Int.lt_trichotomy x y with h | h | h <;> simp <;> omega
set_option maxRecDepth 100000 in
set_option maxHeartbeats 6400000 in
theorem order_walk (a b : At) (w : World) : Calls Tryz.prog 123 #[.agg #[.int .u8 a.k, .int .i64 a.r, .string a.x], .agg #[.int .u8 b.k, .int .i64 b.r, .string b.x]] w fun e w' => e = .returned (.int .i64 (cmpA a b)) ∧ ∃ q os, w' = grow (w.drewN q) os := by
 obtain ⟨W2, hW2⟩ : ∃ W2, (w.alloc (.cells #[.int .u8 a.k, .int .i64 a.r, .string a.x] 67)).alloc (.cells #[.int .u8 b.k, .int .i64 b.r, .string b.x] 67) = W2 := ⟨_, rfl⟩
 have x0 : W2.heap[w.heap.size]? = some (.cells #[.int .u8 a.k, .int .i64 a.r, .string a.x] 67 (0, 0)) := by rw [← hW2]; exact at_more (at_new rfl)
 have x1 : W2.heap[w.heap.size + 1]? = some (.cells #[.int .u8 b.k, .int .i64 b.r, .string b.x] 67 (0, 0)) := by rw [← hW2]; exact at_new (by simp)
 have HX := Lib.hid (And.intro x0 x1); have HW := Lib.hid hW2; have HC := Lib.hid (cmpA_or a b)
 clear x0 x1 hW2
 go_enter Tryz.func123, Tryz.ntmps123
 go_upto_region 1 with (fail)
 rw [HW.out]
 refine wp_region_held_drew (S := fun V => ∀ i, i < W2.heap.size → V.heap[i]? = W2.heap[i]?) (by kernel_rfl) (fun _ _ => rfl) (fun hHeld => ?_)
 refine wpAnyH_take (i := 0) (v := .pointer (some ⟨w.heap.size, 0, none⟩)) rfl (by kernel_rfl) (by kernel_rfl) (by kernel_rfl) (fun _ _ _ h => h) (Or.inl ⟨by rfl, ?_⟩) (by assumption) ?_
 ·intro w' hSw
  first | (go_simp; done) | (go_simp; intro h0; omega) | rfl
 refine wpAnyH_take (i := 1) (v := .int .u8 a.k) rfl (by kernel_rfl) (by kernel_rfl) (by kernel_rfl) (fun _ _ _ h => h) (Or.inl ⟨by rfl, ?_⟩) (by assumption) ?_
 ·intro w' hSw
  obtain ⟨⟨d0, d1, d2⟩, -, dl⟩ := c3 ((hSw _ (lt_of_block HX.out.1)).trans HX.out.1)
  first | (go_simp; done) | (go_simp; intro h0; omega) | rfl
 refine wpAnyH_take (i := 2) (v := .pointer (some ⟨w.heap.size + 1, 0, none⟩)) rfl (by kernel_rfl) (by kernel_rfl) (by kernel_rfl) (fun _ _ _ h => h) (Or.inl ⟨by rfl, ?_⟩) (by assumption) ?_
 ·intro w' hSw
  first | (go_simp; done) | (go_simp; intro h0; omega) | rfl
 refine wpAnyH_take (i := 3) (v := .int .u8 b.k) rfl (by kernel_rfl) (by kernel_rfl) (by kernel_rfl) (fun _ _ _ h => h) (Or.inl ⟨by rfl, ?_⟩) (by assumption) ?_
 ·intro w' hSw
  obtain ⟨⟨d0, d1, d2⟩, -, dl⟩ := c3 ((hSw _ (lt_of_block HX.out.2)).trans HX.out.2)
  first | (go_simp; done) | (go_simp; intro h0; omega) | rfl
 try simp only [Act.put, List.getElem_toArray, List.getElem_cons_succ, List.getElem_cons_zero, List.setIfInBounds_toArray, List.set_cons_zero, List.set_cons_succ]
 refine wpAnyH_take (i := 5) (v := .pointer (some ⟨w.heap.size, 1, none⟩)) rfl (by kernel_rfl) (by kernel_rfl) (by kernel_rfl) (fun _ _ _ h => h) (Or.inl ⟨by rfl, ?_⟩) (by assumption) ?_
 ·intro w' hSw
  first | (go_simp; done) | (go_simp; intro h0; omega) | rfl
 refine wpAnyH_take (i := 6) (v := .int .i64 a.r) rfl (by kernel_rfl) (by kernel_rfl) (by kernel_rfl) (fun _ _ _ h => h) (Or.inl ⟨by rfl, ?_⟩) (by assumption) ?_
 ·intro w' hSw
  obtain ⟨⟨d0, d1, d2⟩, -, dl⟩ := c3 ((hSw _ (lt_of_block HX.out.1)).trans HX.out.1)
  first | (go_simp; done) | (go_simp; intro h0; omega) | rfl
 refine wpAnyH_take (i := 7) (v := .pointer (some ⟨w.heap.size + 1, 1, none⟩)) rfl (by kernel_rfl) (by kernel_rfl) (by kernel_rfl) (fun _ _ _ h => h) (Or.inl ⟨by rfl, ?_⟩) (by assumption) ?_
 ·intro w' hSw
  first | (go_simp; done) | (go_simp; intro h0; omega) | rfl
 refine wpAnyH_take (i := 8) (v := .int .i64 b.r) rfl (by kernel_rfl) (by kernel_rfl) (by kernel_rfl) (fun _ _ _ h => h) (Or.inl ⟨by rfl, ?_⟩) (by assumption) ?_
 ·intro w' hSw
  obtain ⟨⟨d0, d1, d2⟩, -, dl⟩ := c3 ((hSw _ (lt_of_block HX.out.2)).trans HX.out.2)
  first | (go_simp; done) | (go_simp; intro h0; omega) | rfl
 try simp only [Act.put, List.getElem_toArray, List.getElem_cons_succ, List.getElem_cons_zero, List.setIfInBounds_toArray, List.set_cons_zero, List.set_cons_succ]
 refine wpAnyH_take (i := 10) (v := .pointer (some ⟨w.heap.size, 2, none⟩)) rfl (by kernel_rfl) (by kernel_rfl) (by kernel_rfl) (fun _ _ _ h => h) (Or.inl ⟨by rfl, ?_⟩) (by assumption) ?_
 ·intro w' hSw
  first | (go_simp; done) | (go_simp; intro h0; omega) | rfl
 refine wpAnyH_take (i := 11) (v := .string a.x) rfl (by kernel_rfl) (by kernel_rfl) (by kernel_rfl) (fun _ _ _ h => h) (Or.inl ⟨by rfl, ?_⟩) (by assumption) ?_
 ·intro w' hSw
  obtain ⟨⟨d0, d1, d2⟩, -, dl⟩ := c3 ((hSw _ (lt_of_block HX.out.1)).trans HX.out.1)
  first | (go_simp; done) | (go_simp; intro h0; omega) | rfl
 refine wpAnyH_take (i := 12) (v := .pointer (some ⟨w.heap.size + 1, 2, none⟩)) rfl (by kernel_rfl) (by kernel_rfl) (by kernel_rfl) (fun _ _ _ h => h) (Or.inl ⟨by rfl, ?_⟩) (by assumption) ?_
 ·intro w' hSw
  first | (go_simp; done) | (go_simp; intro h0; omega) | rfl
 refine wpAnyH_take (i := 13) (v := .string b.x) rfl (by kernel_rfl) (by kernel_rfl) (by kernel_rfl) (fun _ _ _ h => h) (Or.inl ⟨by rfl, ?_⟩) (by assumption) ?_
 ·intro w' hSw
  obtain ⟨⟨d0, d1, d2⟩, -, dl⟩ := c3 ((hSw _ (lt_of_block HX.out.2)).trans HX.out.2)
  first | (go_simp; done) | (go_simp; intro h0; omega) | rfl
 try simp only [Act.put, List.getElem_toArray, List.getElem_cons_succ, List.getElem_cons_zero, List.setIfInBounds_toArray, List.set_cons_zero, List.set_cons_succ]
 refine wpAnyH_ready (rs := [4]) (by kernel_rfl) (by simp) ?_
 refine AllReadyH.cons rfl (fun K hK => ?_) AllReadyH.nil
 have HK2 := Lib.hid hK
 clear hK
 try rw [if_pos (by rfl)]
 go_simp
 refine (cmpU_walk _ _ _).mono ?_
 rintro e wq ⟨rfl, rfl⟩
 refine HK2.out _ _ (fun _ _ => rfl) (fun hHeld => ?_)
 clear HK2
 try simp only [Act.put, List.getElem_toArray, List.getElem_cons_succ, List.getElem_cons_zero, List.setIfInBounds_toArray, List.set_cons_zero, List.set_cons_succ]
 clear K
 refine wpAnyH_ready (rs := [9]) (by kernel_rfl) (by simp) ?_
 refine AllReadyH.cons rfl (fun K hK => ?_) AllReadyH.nil
 have HK2 := Lib.hid hK
 clear hK
 try rw [if_pos (by rfl)]
 go_simp
 refine (Tryz.cmp_Compare_int _ _ _).mono ?_
 rintro e wq ⟨rfl, rfl⟩
 rw [show Lib.compareInt a.r b.r = cmpI a.r b.r from cmpI_lib _ _]
 refine HK2.out _ _ (fun _ _ => rfl) (fun hHeld => ?_)
 clear HK2
 try simp only [Act.put, List.getElem_toArray, List.getElem_cons_succ, List.getElem_cons_zero, List.setIfInBounds_toArray, List.set_cons_zero, List.set_cons_succ]
 clear K
 refine wpAnyH_ready (rs := [14]) (by kernel_rfl) (by simp) ?_
 refine AllReadyH.cons rfl (fun K hK => ?_) AllReadyH.nil
 have HK2 := Lib.hid hK
 clear hK
 try rw [if_pos (by rfl)]
 go_simp
 refine (cmpS_walk _ _ _).mono ?_
 rintro e wq ⟨rfl, rfl⟩
 refine HK2.out _ _ (fun _ _ => rfl) (fun hHeld => ?_)
 clear HK2
 try simp only [Act.put, List.getElem_toArray, List.getElem_cons_succ, List.getElem_cons_zero, List.setIfInBounds_toArray, List.set_cons_zero, List.set_cons_succ]
 clear K
 refine wpAnyH_ready (rs := [15]) (by kernel_rfl) (by simp) ?_
 refine AllReadyH.cons rfl (fun K hK => ?_) AllReadyH.nil
 have HK2 := Lib.hid hK
 clear hK
 try rw [if_pos (by rfl)]
 go_simp
 refine HK2.out _ _ (fun i hi => (al_new (W := W2) (.cells #[.int .i64 (cmpI a.k b.k), .int .i64 (cmpI a.r b.r), .int .i64 (cmpS a.x b.x)] 3)).block i hi) (fun hHeld => ?_)
 clear HK2
 try simp only [Act.put, List.getElem_toArray, List.getElem_cons_succ, List.getElem_cons_zero, List.setIfInBounds_toArray, List.set_cons_zero, List.set_cons_succ]
 clear K
 have hx3 : (W2.alloc (.cells #[.int .i64 (cmpI a.k b.k), .int .i64 (cmpI a.r b.r), .int .i64 (cmpS a.x b.x)] 3)).drew.heap[W2.heap.size]? = some (.cells #[.int .i64 (cmpI a.k b.k), .int .i64 (cmpI a.r b.r), .int .i64 (cmpS a.x b.x)] 3 (0, 0)) := heap_alloc_new W2 _
 have HX3 := Lib.hid hx3
 clear hx3
 refine wpAnyH_ready (rs := [16]) (by kernel_rfl) (by simp) ?_
 refine AllReadyH.cons rfl (fun K hK => ?_) AllReadyH.nil
 have HK2 := Lib.hid hK
 clear hK
 try rw [if_pos (by rfl)]
 go_simp
 refine (or_walk _ _ _ _ _ _ HX3.out).mono ?_
 rintro e wq ⟨rfl, rfl⟩
 refine HK2.out _ _ (fun i hi => (al_new (W := W2) (.cells #[.int .i64 (cmpI a.k b.k), .int .i64 (cmpI a.r b.r), .int .i64 (cmpS a.x b.x)] 3)).block i hi) (fun hHeld => ?_)
 clear HK2
 try simp only [Act.put, List.getElem_toArray, List.getElem_cons_succ, List.getElem_cons_zero, List.setIfInBounds_toArray, List.set_cons_zero, List.set_cons_succ]
 clear K
 refine wpAnyH_take (i := 17) (v := .int .i64 (or3 (cmpI a.k b.k) (cmpI a.r b.r) (cmpS a.x b.x))) rfl (by kernel_rfl) (by kernel_rfl) (by kernel_rfl) (fun _ _ _ h => h) (Or.inl ⟨by rfl, ?_⟩) (by assumption) ?_
 ·intro w' hSw
  first | (go_simp; done) | (go_simp; intro h0; omega) | rfl
 try simp only [Act.put, List.getElem_toArray, List.getElem_cons_succ, List.getElem_cons_zero, List.setIfInBounds_toArray, List.set_cons_zero, List.set_cons_succ]
 refine wpAnyH_done (by kernel_rfl) ?_ _
 clear hHeld HX3
 rw [← HC.out]
 go_wp2_with (fail)
 go_ret
 refine ⟨rfl, 1, #[Obj.cells #[.int .u8 a.k, .int .i64 a.r, .string a.x] 67, Obj.cells #[.int .u8 b.k, .int .i64 b.r, .string b.x] 67, Obj.cells #[.int .i64 (cmpI a.k b.k), .int .i64 (cmpI a.r b.r), .int .i64 (cmpS a.x b.x)] 3], ?_⟩
 rw [← HW.out]
 simp only [alloc_eq_grow, grow_grow]
 rfl
end Effect
end Go.Proofs.YtkfkpjngiffamaaGreatDoor
namespace Go.Proofs.YtkfkpjngiffamaaGreatDoor
open Go.RowKit Go.Sort Go.Shelf
set_option linter.unusedVariables false
set_option linter.unusedSimpArgs false
namespace Effect

theorem flatK_flat (l : List At) : flatK enc 3 l.toArray = (flat l).toArray := by
 refine ext_get! (by simp [flat_len]) fun t ht => ?_
 have ht' : t < l.toArray.size * 3 := by simpa using ht
 have hl : t / 3 < l.length := by have : t < l.length * 3 := by simpa using ht'
                                  omega
 rw [get_flatK enc 3 l.toArray t ht']
 have h := flat_get l (t / 3) hl (t % 3) (by omega)
 rw [show t / 3 * 3 + t % 3 = t by omega] at h
 have e1 : l.toArray[t / 3]! = aget l (t / 3) := by
  unfold aget
  simp [List.getD_eq_getElem?_getD, hl]
 rw [e1]
 have hf : t < (flat l).length := by rw [flat_len]; omega
 rw [List.getElem?_eq_getElem hf] at h
 have h3 : t % 3 < (enc (aget l (t / 3))).length := Nat.mod_lt t (by decide : 3 > 0)
 rw [List.getElem?_eq_getElem h3] at h
 have h := Option.some.inj h
 have e2 : (enc (aget l (t / 3)))[t % 3]! = (enc (aget l (t / 3)))[t % 3]'h3 := getElem!_pos (enc (aget l (t / 3))) (t % 3) h3
 have e3 : (flat l).toArray[t]! = (flat l)[t]'hf := by
  rw [getElem!_pos (flat l).toArray t (by simpa using hf)]; simp
 rw [e2, e3, h]
theorem holdsV {w : World} {g : Nat} {cur : Array Value} {e : TypeId} {F : List Value} (hb : w.heap[g]? = some (.cells cur e (0, 0))) (ht : cur.toList.take F.length = F) : Holds id w g 0 F.toArray := by
 intro j hj
 have hj' : j < F.length := by simpa using hj
 refine ⟨?_, by simp [World.frozen?, hb]⟩
 have h1 : (cur.toList.take F.length)[j]? = F[j]? := by rw [ht]
 rw [List.getElem?_take_of_lt hj'] at h1
 simp only [World.cell?, hb, Nat.zero_add]
 simp only [Option.isSome_none, Bool.false_eq_true, if_false]
 rw [← Array.getElem?_toList, h1]
 simp [hj']
theorem heap_sortedV {w : World} {g n : Nat} {os : Array Obj} {cur : Array Value} {e : TypeId} {fr : Nat × Nat} (d : Array Value) (hb : w.heap[g]? = some (.cells cur e fr)) :
  (grow (putRow id (Sort.ahead w n) g 0 d) os).heap[g]? = some (.cells (putCells id 0 d cur) e fr) := by
 have hg : g < w.heap.size := (Array.getElem?_eq_some_iff.1 hb).1
 rw [heap_grow_old _ _ (by simpa using hg)]
 simp [putRow, mapBlock, Sort.ahead, Array.getElem?_modify, hb, onCells]
theorem grownBy_sortedV {w : World} {g n : Nat} {os : Array Obj} (d : Array Value) : w.grownBy (grow (putRow id (Sort.ahead w n) g 0 d) os) (some g) := by
 refine ⟨rfl, rfl, rfl, by simp, fun k hk hne => ?_⟩
 rw [heap_grow_old _ _ (by simpa using hk)]
 have : g ≠ k := fun e => hne (by rw [e])
 simp [putRow, mapBlock, Sort.ahead, Array.getElem?_modify, this]
theorem take_putCellsV (cur : Array Value) (ts : List Value) (h : ts.length ≤ cur.size) : (putCells id 0 ts.toArray cur).toList.take ts.length = ts := by
 apply List.ext_getElem?
 intro j
 by_cases hj : j < ts.length
 ·rw [List.getElem?_take_of_lt hj, Array.getElem?_toList]
  simp [putCells, hj, show j < cur.size by omega]
 ·rw [List.getElem?_take_eq_none (by omega), List.getElem?_eq_none (by omega)]
theorem lt_eq : ltOf cmpA = lessA := funext fun x => funext fun y => cmpA_neg x y
theorem enters_order : ∀ args w, (callFunc 123 args).run Tryz.prog w = .ok (.enter 123 args) w := enters_of Tryz.func123 (by kernel_rfl) rfl
theorem sort_walk (B n c : Nat) (a : Option Addr) (l : List At) (w : World) (hl : l.length = n) (h : w.ownsRow B 67 3 (.slice a n c) n (flat l)) (hn : n < 4611686018427387904) :
  Calls Tryz.prog 122 #[.slice a n c, .func (.func 123) #[] #[]] w fun en w' => en = .returned (.tuple #[]) ∧ ∃ s : List At, s.length = n ∧ s.Perm l ∧ s.Pairwise (fun x y => lessA y x = false) ∧ w'.ownsRow B 67 3 (.slice a n c) n (flat s) ∧ w.grownBy w' (Value.slice a n c).ownBlock := by
 subst hl
 rcases h.2 with ⟨hv, h0⟩ | ⟨g, cap, cur, hv, hb, hg, h1, h2, h3, h4⟩
 ·have hl : l = [] := List.eq_nil_of_length_eq_zero h0
  subst hl
  have hc := AnyF.slices_SortFunc_none (P := Tryz.prog) (ρ := Tryz.sortAt_ren) { Tryz.sortAt with } a c (.func (.func 123) #[] #[]) w
  change Calls Tryz.prog 122 _ _ _ at hc
  refine hc.mono ?_
  rintro en w' ⟨rfl, rfl⟩
  exact ⟨rfl, [], rfl, List.Perm.refl _, List.Pairwise.nil, h, ⟨rfl, rfl, rfl, Nat.le_refl _, fun _ _ _ => rfl⟩⟩
 ·injection hv with hv1 hv2 hv3
  subst hv1 hv3
  have hH : HoldsK enc 3 w g 0 l.toArray := by
   unfold HoldsK
   rw [flatK_flat]
   exact holdsV hg (by rw [flat_len]; exact h4)
  have hc := AnyQ.slices_SortFunc_total Tryz.sortAt 3 Tryz.isAgg67 Tryz.sizeOf67 enc (fun _ => rfl) (fun x v hv => by simp [enc] at hv; rcases hv with rfl | rfl | rfl <;> rfl) cmpA (by rw [lt_eq]; exact swoA) 123 #[] g 0 c l.toArray w enters_order (fun _ _ _ _ x y => order_walk x y _) hH (lt_of_block hg) (by simpa using hn) (by rw [lt_eq]; exact fun x y => lessA_total)
  change Calls Tryz.prog 122 _ _ _ at hc
  rw [List.size_toArray] at hc
  refine hc.mono ?_
  rintro en w' ⟨rfl, q, os, rfl⟩
  rw [lt_eq]
  have hlen : (l.mergeSort fun x y => !lessA y x).length = l.length := List.length_mergeSort _
  refine ⟨rfl, l.mergeSort fun x y => !lessA y x, hlen, List.mergeSort_perm _ _, ?_, ?_, ?_⟩
  ·refine (List.pairwise_mergeSort (le := fun x y => !lessA y x) (fun a b c h1 h2 => ?_) (fun a b => ?_) l).imp fun h => by simpa using h
   ·have h1' : lessA b a = false := by simpa using h1
    have h2' : lessA c b = false := by simpa using h2
    have := swoA.ntrans c b a h2' h1'
    rw [this]; rfl
   ·cases h : lessA b a with
    | false => rfl
    | true => rw [lessA_asym h]; rfl
  ·show (grow (putRow id (Sort.ahead w q) g 0 (flatK enc 3 _)) os).ownsRow _ _ _ _ _ _
   rw [flatK_flat]
   refine ⟨by rw [flat_len, hlen], .inr ⟨g, c, _, rfl, hb, heap_sortedV _ hg, h1, h2, by simp [putCells, h3], ?_⟩⟩
   have := take_putCellsV cur (flat (l.mergeSort fun x y => !lessA y x)) (by rw [flat_len, hlen]; omega)
   rw [flat_len, hlen] at this
   exact this
  ·show w.grownBy (grow (putRow id (Sort.ahead w q) g 0 (flatK enc 3 _)) os) (some g)
   exact grownBy_sortedV _
end Effect
end Go.Proofs.YtkfkpjngiffamaaGreatDoor
