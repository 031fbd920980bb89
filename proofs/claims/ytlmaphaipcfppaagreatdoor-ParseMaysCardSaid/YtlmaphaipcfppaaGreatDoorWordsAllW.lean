/- The walks of the program's Name and Exn, and of the document's. -/
import Derived.Test.YtlmaphaipcfppaaGreatDoorWordsShape
namespace Go.Proofs.YtlmaphaipcfppaaGreatDoor
open Go.RowKit
namespace Words
open Chars (ret_i64 ret_bool cls el isin run spanI BytesAt Bytes bytes_new)

/-- Text i of a list. -/
def sel (ss : List ByteArray) (i : Nat) : ByteArray := ss.getD i ByteArray.empty
theorem sel_mem {ss : List ByteArray} {i : Nat} (h : i < ss.length) : sel ss i ∈ ss := by
  unfold sel
  rw [List.getD_eq_getElem?_getD, List.getElem?_eq_getElem h]
  exact List.getElem_mem h
/-- What a slice of texts holds: nothing is asked of an empty one. -/
def StrsAt (w : World) (p : Option Addr) (ss : List ByteArray) : Prop :=
  ss = [] ∨ ∃ b o, p = some ⟨b, o, none⟩ ∧ ∀ i, i < ss.length → w.cell? ⟨b, o + i, none⟩ = some (.string (sel ss i))
theorem StrsAt.get {w : World} {p : Option Addr} {ss : List ByteArray} (h : StrsAt w p ss) (k : Nat) (hk : k < ss.length) :
    ∃ b o, p = some ⟨b, o, none⟩ ∧ ∀ i, i < ss.length → w.cell? ⟨b, o + i, none⟩ = some (.string (sel ss i)) := by
  rcases h with rfl | h
  · simp at hk
  · exact h
theorem StrsAt.below {w W : World} {p : Option Addr} {ss : List ByteArray} (h : StrsAt w p ss) (hb : Below w.heap.size w W) : StrsAt W p ss := by
  rcases h with rfl | ⟨b, o, hp, hc⟩
  · exact .inl rfl
  · refine .inr ⟨b, o, hp, fun i hi => ?_⟩
    have hl : b < w.heap.size := World.block_lt_of_cell? w _ (hc i hi)
    exact (hb.cell (p := ⟨b, o + i, none⟩) hl).trans (hc i hi)
theorem strs_one (w : World) (t : Nat) (s : ByteArray) : StrsAt (w.alloc (.cells #[.string s] t)) (some ⟨w.heap.size, 0, none⟩) [s] := by
  refine .inr ⟨w.heap.size, 0, rfl, fun i hi => ?_⟩
  have : i = 0 := by simp at hi; omega
  subst this
  simp [go_sem, sel]

def Sizes (ss : List ByteArray) : Prop := ∀ s ∈ ss, s.size ≤ maxLen
/-- What a closure says of a text, in whatever later world. -/
def Tells (c : Nat) (P : ByteArray → Bool) (w : World) : Prop :=
  ∀ (W : World) (s : ByteArray), Below w.heap.size w W → s.size ≤ maxLen → Calls Tryz.prog c #[.string s] W fun e w' => e = .returned (.bool (P s)) ∧ Below W.heap.size W w'

theorem all_no {ss : List ByteArray} {P : ByteArray → Bool} {k : Nat} (hk : k < ss.length) (h : P (sel ss k) = false) : ss.all P = false := by
  rw [Bool.eq_false_iff]
  intro ha
  have := List.all_eq_true.1 ha _ (sel_mem hk)
  rw [h] at this
  cases this
theorem all_yes {ss : List ByteArray} {P : ByteArray → Bool} (h : ∀ j, j < ss.length → P (sel ss j) = true) : ss.all P = true := by
  rw [List.all_eq_true]
  intro s hs
  obtain ⟨i, hi, e⟩ := List.getElem_of_mem hs
  have := h i hi
  unfold sel at this
  rw [List.getD_eq_getElem?_getD, List.getElem?_eq_getElem hi] at this
  rw [← e]
  exact this

set_option maxHeartbeats 400000 in
theorem all_name_walk (p : Option Addr) (n d : Nat) (ss : List ByteArray) (P : ByteArray → Bool) (w : World) (hn : ss.length = n) (hm : n ≤ maxLen) (hp : StrsAt w p ss) (hz : Sizes ss) (hc : Tells 106 P w) :
    Calls Tryz.prog 105 #[.slice p n d, .func (.func 106) #[] #[]] w fun e w' => e = .returned (.bool (ss.all P)) ∧ Below w.heap.size w w' := by
  unfold maxLen at hm
  have HN := Lib.hid hn; have HP := Lib.hid hp; have HZ := Lib.hid hz; have HC := Lib.hid hc
  clear hn hp hz hc
  go_enter Tryz.func105, Tryz.ntmps105
  go_wp2
  go_loopw [6, 9] (fun _ i wr => ∃ k : Nat, k ≤ n ∧ i = .int .i64 k ∧ (∀ j, j < k → P (sel ss j) = true) ∧ Below w.heap.size w wr) (fun _ i _ => n - (intOf i).toNat)
  case atStart => exact ⟨0, by omega, rfl, fun j hj => by omega, Below.refl _ _⟩
  case round =>
    obtain ⟨k, hk, rfl, ha, hb⟩ := hrel
    have HA := Lib.hid ha; have HB := Lib.hid hb
    clear ha hb
    by_cases hlt : k < n
    · have hk' : k < ss.length := by rw [HN.out]; exact hlt
      obtain ⟨b, o, rfl, hcs⟩ := (HP.out.below HB.out).get k hk'
      have hck := hcs k hk'
      have hsz := HZ.out _ (sel_mem hk')
      have HSZ := Lib.hid hsz; have HK := Lib.hid hk'
      clear hcs hsz hk'
      go_wp2_with (fail)
      refine (HC.out _ (sel ss k) HB.out HSZ.out).mono ?_
      rintro e w' ⟨rfl, hb2⟩
      have HB2 := Lib.hid (HB.out.trans (hb2.mono HB.out.size)); clear hb2
      cases ht : P (sel ss k)
      · have HT := Lib.hid ht; clear ht
        go_wp2
        go_ret
        exact ⟨ret_bool (all_no HK.out HT.out).symm, HB2.out⟩
      · have HT := Lib.hid ht; clear ht
        go_wp2
        go_roundw
        case rel =>
          refine ⟨k + 1, by omega, by go_num, fun j hj => ?_, HB2.out⟩
          by_cases hjk : j = k
          · rw [hjk]; exact HT.out
          · exact HA.out j (by omega)
        case measure => simp [intOf]; omega
    · go_wp2
      go_ret
      refine ⟨ret_bool (all_yes fun j hj => HA.out j ?_).symm, HB.out⟩
      have := HN.out
      omega

set_option maxHeartbeats 400000 in
theorem all_exn_walk (p : Option Addr) (n d : Nat) (ss : List ByteArray) (P : ByteArray → Bool) (w : World) (hn : ss.length = n) (hm : n ≤ maxLen) (hp : StrsAt w p ss) (hz : Sizes ss) (hc : Tells 108 P w) :
    Calls Tryz.prog 105 #[.slice p n d, .func (.func 108) #[] #[]] w fun e w' => e = .returned (.bool (ss.all P)) ∧ Below w.heap.size w w' := by
  unfold maxLen at hm
  have HN := Lib.hid hn; have HP := Lib.hid hp; have HZ := Lib.hid hz; have HC := Lib.hid hc
  clear hn hp hz hc
  go_enter Tryz.func105, Tryz.ntmps105
  go_wp2
  go_loopw [6, 9] (fun _ i wr => ∃ k : Nat, k ≤ n ∧ i = .int .i64 k ∧ (∀ j, j < k → P (sel ss j) = true) ∧ Below w.heap.size w wr) (fun _ i _ => n - (intOf i).toNat)
  case atStart => exact ⟨0, by omega, rfl, fun j hj => by omega, Below.refl _ _⟩
  case round =>
    obtain ⟨k, hk, rfl, ha, hb⟩ := hrel
    have HA := Lib.hid ha; have HB := Lib.hid hb
    clear ha hb
    by_cases hlt : k < n
    · have hk' : k < ss.length := by rw [HN.out]; exact hlt
      obtain ⟨b, o, rfl, hcs⟩ := (HP.out.below HB.out).get k hk'
      have hck := hcs k hk'
      have hsz := HZ.out _ (sel_mem hk')
      have HSZ := Lib.hid hsz; have HK := Lib.hid hk'
      clear hcs hsz hk'
      go_wp2_with (fail)
      refine (HC.out _ (sel ss k) HB.out HSZ.out).mono ?_
      rintro e w' ⟨rfl, hb2⟩
      have HB2 := Lib.hid (HB.out.trans (hb2.mono HB.out.size)); clear hb2
      cases ht : P (sel ss k)
      · have HT := Lib.hid ht; clear ht
        go_wp2
        go_ret
        exact ⟨ret_bool (all_no HK.out HT.out).symm, HB2.out⟩
      · have HT := Lib.hid ht; clear ht
        go_wp2
        go_roundw
        case rel =>
          refine ⟨k + 1, by omega, by go_num, fun j hj => ?_, HB2.out⟩
          by_cases hjk : j = k
          · rw [hjk]; exact HT.out
          · exact HA.out j (by omega)
        case measure => simp [intOf]; omega
    · go_wp2
      go_ret
      refine ⟨ret_bool (all_yes fun j hj => HA.out j ?_).symm, HB.out⟩
      have := HN.out
      omega

theorem name1_walk (s : ByteArray) (w : World) (hs : s.size ≤ maxLen) (hl : KwLaid w) :
    Calls Tryz.prog 106 #[.string s] w fun e w' => e = .returned (.bool (nameB s)) ∧ Below w.heap.size w w' := by
  have hk := keyword_walk s
  have HK := Lib.hid hk; have HL := Lib.hid hl
  clear hk hl
  cases hw : wordB 3 (ints s.data.toList)
  · have hr : nameB s = false := by unfold nameB; rw [hw]; rfl
    have HR := Lib.hid hr; have HW := Lib.hid hw
    clear hr hw
    go_enter Tryz.func106, Tryz.ntmps106
    go_wp2_with (fail)
    refine (begins_walk s 3 _ hs).mono ?_
    rw [HW.out]
    rintro e w' ⟨rfl, hb⟩
    have HB := Lib.hid hb; clear hb
    go_wp2
    go_ret
    exact ⟨ret_bool HR.out.symm, HB.out⟩
  · have hr : nameB s = ((kwN s.data.toList : Int) == 0) := by
      unfold nameB; rw [hw, Bool.true_and, Bool.eq_iff_iff]; simp
    have HR := Lib.hid hr; have HW := Lib.hid hw
    clear hr hw
    go_enter Tryz.func106, Tryz.ntmps106
    go_wp2_with (fail)
    refine (begins_walk s 3 _ hs).mono ?_
    rw [HW.out]
    rintro e w' ⟨rfl, hb⟩
    have HB := Lib.hid hb; clear hb
    go_wp2_with (fail)
    refine (HK.out _ (HL.out.below HB.out)).mono ?_
    rintro e w2 ⟨rfl, rfl⟩
    generalize kwN s.data.toList = N at *
    go_wp2
    go_ret
    exact ⟨ret_bool HR.out.symm, HB.out⟩

theorem exn1_walk (s : ByteArray) (w : World) (hs : s.size ≤ maxLen) :
    Calls Tryz.prog 108 #[.string s] w fun e w' => e = .returned (.bool (exnB s)) ∧ Below w.heap.size w w' := by
  go_enter Tryz.func108, Tryz.ntmps108
  go_wp2_with (fail)
  refine (begins_walk s 4 _ hs).mono ?_
  rintro e w' ⟨rfl, hb⟩
  have HB := Lib.hid hb; clear hb
  go_wp2
  go_ret
  exact ⟨rfl, HB.out⟩

theorem name_walk (p : Option Addr) (n d : Nat) (ss : List ByteArray) (w : World) (hn : ss.length = n) (hm : n ≤ maxLen) (hp : StrsAt w p ss) (hz : Sizes ss) (hl : KwLaid w) :
    Calls Tryz.prog 95 #[.slice p n d] w fun e w' => e = .returned (.bool (ss.all nameB)) ∧ Below w.heap.size w w' := by
  have hc : Tells 106 nameB w := fun W s hb hs => name1_walk s W hs (hl.below hb)
  have HN := Lib.hid hn; have HP := Lib.hid hp; have HZ := Lib.hid hz; have HC := Lib.hid hc
  clear hn hp hz hc hl
  go_enter Tryz.func95, Tryz.ntmps95
  go_wp2_with (fail)
  refine (all_name_walk p n d ss nameB _ HN.out hm HP.out HZ.out HC.out).mono ?_
  rintro e w' ⟨rfl, hb⟩
  have HB := Lib.hid hb; clear hb
  go_wp2
  go_ret
  exact ⟨rfl, HB.out⟩
theorem exn_walk (p : Option Addr) (n d : Nat) (ss : List ByteArray) (w : World) (hn : ss.length = n) (hm : n ≤ maxLen) (hp : StrsAt w p ss) (hz : Sizes ss) :
    Calls Tryz.prog 96 #[.slice p n d] w fun e w' => e = .returned (.bool (ss.all exnB)) ∧ Below w.heap.size w w' := by
  have hc : Tells 108 exnB w := fun W s hb hs => exn1_walk s W hs
  have HN := Lib.hid hn; have HP := Lib.hid hp; have HZ := Lib.hid hz; have HC := Lib.hid hc
  clear hn hp hz hc
  go_enter Tryz.func96, Tryz.ntmps96
  go_wp2_with (fail)
  refine (all_exn_walk p n d ss exnB _ HN.out hm HP.out HZ.out HC.out).mono ?_
  rintro e w' ⟨rfl, hb⟩
  have HB := Lib.hid hb; clear hb
  go_wp2
  go_ret
  exact ⟨rfl, HB.out⟩
/-- Of one text. -/
theorem name_one (s : ByteArray) (t : Nat) (w : World) (hs : s.size ≤ maxLen) (hl : KwLaid w) :
    Calls Tryz.prog 95 #[.slice (some ⟨w.heap.size, 0, none⟩) 1 1] (w.alloc (.cells #[.string s] t)) fun e w' => e = .returned (.bool (nameB s)) ∧ Below w.heap.size w w' := by
  have hb0 : Below w.heap.size w (w.alloc (.cells #[.string s] t)) := (Below.refl _ _).alloc (Nat.le_refl _) _
  refine (name_walk _ 1 1 [s] _ rfl (by unfold maxLen; omega) (strs_one w t s) (fun x hx => by simp at hx; rw [hx]; exact hs) (hl.below hb0)).mono ?_
  rintro e w' ⟨rfl, hb⟩
  exact ⟨ret_bool (by simp), hb0.trans (hb.mono hb0.size)⟩
theorem exn_one (s : ByteArray) (t : Nat) (w : World) (hs : s.size ≤ maxLen) :
    Calls Tryz.prog 96 #[.slice (some ⟨w.heap.size, 0, none⟩) 1 1] (w.alloc (.cells #[.string s] t)) fun e w' => e = .returned (.bool (exnB s)) ∧ Below w.heap.size w w' := by
  have hb0 : Below w.heap.size w (w.alloc (.cells #[.string s] t)) := (Below.refl _ _).alloc (Nat.le_refl _) _
  refine (exn_walk _ 1 1 [s] _ rfl (by unfold maxLen; omega) (strs_one w t s) (fun x hx => by simp at hx; rw [hx]; exact hs)).mono ?_
  rintro e w' ⟨rfl, hb⟩
  exact ⟨ret_bool (by simp), hb0.trans (hb.mono hb0.size)⟩
/-- Likewise, the block told by its number. -/
theorem name_at (s : ByteArray) (t N : Nat) (w : World) (hN : N = w.heap.size) (hs : s.size ≤ maxLen) (hl : KwLaid w) :
    Calls Tryz.prog 95 #[.slice (some ⟨N, 0, none⟩) 1 1] (w.alloc (.cells #[.string s] t)) fun e w' => e = .returned (.bool (nameB s)) ∧ Below w.heap.size w w' := by
  subst hN
  exact name_one s t w hs hl
theorem exn_at (s : ByteArray) (t N : Nat) (w : World) (hN : N = w.heap.size) (hs : s.size ≤ maxLen) :
    Calls Tryz.prog 96 #[.slice (some ⟨N, 0, none⟩) 1 1] (w.alloc (.cells #[.string s] t)) fun e w' => e = .returned (.bool (exnB s)) ∧ Below w.heap.size w w' := by
  subst hN
  exact exn_one s t w hs
end Words
end Go.Proofs.YtlmaphaipcfppaaGreatDoor
