/- The walks of exceptions' names, one text at a time: the program's and the document's. -/
import Derived.Test.YtggabjmfdnfckaaGreatDoorWordsMath
import Derived.Lib.ConvBytes
import Derived.Lib.SmallJoins
import Derived.Laws.AppendOwn
import Derived.LoopTactic
namespace Go.Proofs.YtggabjmfdnfckaaGreatDoor
open Go.RowKit
namespace Words
open Chars (ret_i64 ret_bool cls el isin run spanI BytesAt Bytes bytes_new)

theorem size_list (s : ByteArray) : s.data.toList.length = s.size := rfl
theorem ints_size (s : ByteArray) : (ints s.data.toList).length = s.size := by rw [ints_length, size_list]
theorem el_str (s : ByteArray) (k : Nat) (h : k < s.size) : el (ints s.data.toList) k = (s[k].toNat : Int) := by
  rw [el_ints _ k (by rw [size_list]; exact h)]
  rfl
theorem span_zero (ys xs : List Int) : spanI ys xs 0 = (run ys xs : Nat) := by
  unfold spanI
  cases xs with
  | nil => rfl
  | cons x xs => rw [if_pos (by simp)]; rfl
theorem bytesAt_new (w : World) (t : Nat) (s : ByteArray) : BytesAt (Lib.bytesWorld w t s) (some ⟨w.heap.size, 0, none⟩) (ints s.data.toList) := by
  refine .inr ⟨w.heap.size, 0, rfl, fun i hi => ?_⟩
  rw [ints_size] at hi
  rw [Nat.zero_add, Lib.bytesWorld_cell w t s i hi]
  have := el_str s i hi
  unfold el at this
  rw [this, List.getD_eq_getElem?_getD, List.getElem?_eq_getElem (by rw [size_list]; exact hi)]
  rfl

set_option maxHeartbeats 400000 in
theorem whole_walk (s : ByteArray) (q : Option Addr) (m d : Nat) (ys : List Int) (w : World) (hs : s.size ≤ maxLen) (hy : ys.length = m) (hm : m ≤ maxLen) (hq : BytesAt w q ys) :
    Calls Tryz.prog 100 #[.string s, .slice q m d] w fun e w' => e = .returned (.bool (allB ys (ints s.data.toList))) ∧ Below w.heap.size w w' := by
  have hcv := fun W : World => Lib.run_convert_string_bytes (P := Tryz.prog) W 9 77 5 s (u := .string) Tryz.underlying9 Tryz.underlying77 Tryz.underlying5
  have hb : Below w.heap.size w (Lib.bytesWorld w 5 s) := Go.Joins.below_bytesWorld _ _ _ _ (Nat.le_refl _)
  have hc := grownCap_le_maxLen w s.size 0 5 hs
  have hg := grownCap_ge w s.size 0 5
  have HB := Lib.hid hb; have HC := Lib.hid hc; have HG := Lib.hid hg; have HQ := Lib.hid hq; have HY := Lib.hid hy; have HM := Lib.hid hm
  clear hb hc hg hq hy hm
  go_enter Tryz.func100, Tryz.ntmps100
  go_wp2_with (fail)
  refine (Chars.span_walk _ s.size _ (ints s.data.toList) 0 q m d ys _ (ints_size s) HG.out HC.out (bytesAt_new w _ s) (ints_bytes _) HY.out HM.out (HQ.out.below HB.out)).mono ?_
  rintro e w' ⟨rfl, hb2⟩
  have HB2 := Lib.hid (HB.out.trans (hb2.mono HB.out.size)); clear hb2
  unfold maxLen at hs
  go_wp2
  go_ret
  refine ⟨ret_bool ?_, HB2.out⟩
  rw [span_zero, ← ints_size s, run_allB]

theorem cells3 (w : World) (t : Nat) : BytesAt (w.alloc (.cells #[.int .u8 3, .int .u8 4, .int .u8 2] t)) (some ⟨w.heap.size, 0, none⟩) [3, 4, 2] := bytes_new w _ _ _ _ _ rfl rfl

set_option maxHeartbeats 400000 in
theorem begins_walk (s : ByteArray) (f : Int) (w : World) (hs : s.size ≤ maxLen) :
    Calls Tryz.prog 78 #[.string s, .int .u8 f] w fun e w' => e = .returned (.bool (wordB f (ints s.data.toList))) ∧ Below w.heap.size w w' := by
  by_cases h0 : s.size = 0
  · have hn : s.toList = [] := by rw [Lib.toList_data]; exact List.length_eq_zero_iff.1 h0
    have hr : wordB f (ints s.data.toList) = false := by
      rw [show s.data.toList = [] from List.length_eq_zero_iff.1 h0]; exact wordB_nil f
    have HR := Lib.hid hr
    clear hr h0
    go_enter Tryz.func78, Tryz.ntmps78
    go_wp2_with (fail)
    go_ret
    exact ⟨ret_bool HR.out.symm, Below.refl _ _⟩
  have hne : s.toList ≠ [] := by rw [Lib.toList_data]; exact fun e => h0 (by rw [← size_list, e]; rfl)
  have hne' : (!s.toList.isEmpty) = true := by simpa using hne
  have hpos : 0 < s.size := by omega
  clear h0
  by_cases h1 : s.size ≤ 16
  · have hcell := el_str s 0 hpos
    have hby := (ints_bytes s.data.toList).el (k := 0) (by rw [ints_size]; exact hpos)
    rw [hcell] at hby
    by_cases h2 : cls (s[0].toNat : Int) = f
    · have hr := wordB_of_allB f (ints s.data.toList) (by intro e; have := ints_size s; rw [e] at this; simp at this; omega) (by rw [ints_size]; exact h1) (by rw [hcell]; exact h2)
      have HR := Lib.hid hr; have H2 := Lib.hid h2; have HBY := Lib.hid hby; have HS := Lib.hid hs
      have h2' : (cls (s[0].toNat : Int) == f) = true := by simpa using h2
      clear hr h2 hby hcell hs
      go_enter Tryz.func78, Tryz.ntmps78
      go_wp2_with (fail)
      refine (Chars.class_walk _ HBY.out.1 HBY.out.2 _).mono ?_
      rintro e w' ⟨rfl, rfl⟩
      go_wp2_with (fail)
      refine (whole_walk s _ 3 3 [3, 4, 2] _ HS.out rfl (by unfold maxLen; omega) (cells3 w _)).mono ?_
      rintro e w' ⟨rfl, hb⟩
      have HB := Lib.hid hb; clear hb
      go_wp2
      go_ret
      exact ⟨ret_bool HR.out.symm, ((Below.refl _ _).alloc (Nat.le_refl _) _).trans (HB.out.mono (by simp))⟩
    · have hr : wordB f (ints s.data.toList) = false := wordB_first (by rw [hcell]; exact h2)
      have h2' : (cls (s[0].toNat : Int) == f) = false := by simpa using h2
      have HR := Lib.hid hr; have H2 := Lib.hid h2; have HBY := Lib.hid hby
      clear hr h2 hby hcell hs
      go_enter Tryz.func78, Tryz.ntmps78
      go_wp2_with (fail)
      refine (Chars.class_walk _ HBY.out.1 HBY.out.2 _).mono ?_
      rintro e w' ⟨rfl, rfl⟩
      go_wp2
      go_ret
      exact ⟨ret_bool HR.out.symm, Below.refl _ _⟩
  · have hr : wordB f (ints s.data.toList) = false := wordB_long (by rw [ints_size]; exact h1)
    have HR := Lib.hid hr
    clear hr
    unfold maxLen at hs
    go_enter Tryz.func78, Tryz.ntmps78
    go_wp2_with (fail)
    go_ret
    exact ⟨ret_bool HR.out.symm, Below.refl _ _⟩

end Words
end Go.Proofs.YtggabjmfdnfckaaGreatDoor
namespace Go.Proofs.YtggabjmfdnfckaaGreatDoor
open Go.RowKit
namespace Words
open Chars (ret_i64 ret_bool cls el isin run spanI BytesAt Bytes bytes_new)

/-- Text i of a list. -/
def sel (ss : List ByteArray) (i : Nat) : ByteArray := ss.getD i ByteArray.empty
theorem sel_mem {ss : List ByteArray} {i : Nat} (h : i < ss.length) : sel ss i ∈ ss := by
  unfold sel
  rw [List.getD_eq_getElem?_getD, List.getElem?_eq_getElem h]
  exact List.getElem_mem h
/-- What a slice of texts holds: nothing is asked of an empty one. -/
def StrsAt (w : World) (p : Option Addr) (ss : List ByteArray) : Prop :=
  ss = [] ∨ ∃ b o, p = some ⟨b, o, none⟩ ∧ ∀ i, i < ss.length → w.cell? ⟨b, o + i, none⟩ = some (.string (sel ss i))
theorem StrsAt.get {w : World} {p : Option Addr} {ss : List ByteArray} (h : StrsAt w p ss) (k : Nat) (hk : k < ss.length) :
    ∃ b o, p = some ⟨b, o, none⟩ ∧ ∀ i, i < ss.length → w.cell? ⟨b, o + i, none⟩ = some (.string (sel ss i)) := by
  rcases h with rfl | h
  · simp at hk
  · exact h
theorem StrsAt.below {w W : World} {p : Option Addr} {ss : List ByteArray} (h : StrsAt w p ss) (hb : Below w.heap.size w W) : StrsAt W p ss := by
  rcases h with rfl | ⟨b, o, hp, hc⟩
  · exact .inl rfl
  · refine .inr ⟨b, o, hp, fun i hi => ?_⟩
    have hl : b < w.heap.size := World.block_lt_of_cell? w _ (hc i hi)
    exact (hb.cell (p := ⟨b, o + i, none⟩) hl).trans (hc i hi)
theorem strs_one (w : World) (t : Nat) (s : ByteArray) : StrsAt (w.alloc (.cells #[.string s] t)) (some ⟨w.heap.size, 0, none⟩) [s] := by
  refine .inr ⟨w.heap.size, 0, rfl, fun i hi => ?_⟩
  have : i = 0 := by simp at hi; omega
  subst this
  simp [go_sem, sel]

def Sizes (ss : List ByteArray) : Prop := ∀ s ∈ ss, s.size ≤ maxLen
/-- What a closure says of a text, in whatever later world. -/
def Tells (c : Nat) (P : ByteArray → Bool) (w : World) : Prop :=
  ∀ (W : World) (s : ByteArray), Below w.heap.size w W → s.size ≤ maxLen → Calls Tryz.prog c #[.string s] W fun e w' => e = .returned (.bool (P s)) ∧ Below W.heap.size W w'

theorem all_no {ss : List ByteArray} {P : ByteArray → Bool} {k : Nat} (hk : k < ss.length) (h : P (sel ss k) = false) : ss.all P = false := by
  rw [Bool.eq_false_iff]
  intro ha
  have := List.all_eq_true.1 ha _ (sel_mem hk)
  rw [h] at this
  cases this
theorem all_yes {ss : List ByteArray} {P : ByteArray → Bool} (h : ∀ j, j < ss.length → P (sel ss j) = true) : ss.all P = true := by
  rw [List.all_eq_true]
  intro s hs
  obtain ⟨i, hi, e⟩ := List.getElem_of_mem hs
  have := h i hi
  unfold sel at this
  rw [List.getD_eq_getElem?_getD, List.getElem?_eq_getElem hi] at this
  rw [← e]
  exact this

set_option maxHeartbeats 400000 in
theorem all_exn_walk (p : Option Addr) (n d : Nat) (ss : List ByteArray) (P : ByteArray → Bool) (w : World) (hn : ss.length = n) (hm : n ≤ maxLen) (hp : StrsAt w p ss) (hz : Sizes ss) (hc : Tells 77 P w) :
    Calls Tryz.prog 76 #[.slice p n d, .func (.func 77) #[] #[]] w fun e w' => e = .returned (.bool (ss.all P)) ∧ Below w.heap.size w w' := by
  unfold maxLen at hm
  have HN := Lib.hid hn; have HP := Lib.hid hp; have HZ := Lib.hid hz; have HC := Lib.hid hc
  clear hn hp hz hc
  go_enter Tryz.func76, Tryz.ntmps76
  go_wp2
  go_loopw [6, 9] (fun _ i wr => ∃ k : Nat, k ≤ n ∧ i = .int .i64 k ∧ (∀ j, j < k → P (sel ss j) = true) ∧ Below w.heap.size w wr) (fun _ i _ => n - (intOf i).toNat)
  case atStart => exact ⟨0, by omega, rfl, fun j hj => by omega, Below.refl _ _⟩
  case round =>
    obtain ⟨k, hk, rfl, ha, hb⟩ := hrel
    have HA := Lib.hid ha; have HB := Lib.hid hb
    clear ha hb
    by_cases hlt : k < n
    · have hk' : k < ss.length := by rw [HN.out]; exact hlt
      obtain ⟨b, o, rfl, hcs⟩ := (HP.out.below HB.out).get k hk'
      have hck := hcs k hk'
      have hsz := HZ.out _ (sel_mem hk')
      have HSZ := Lib.hid hsz; have HK := Lib.hid hk'
      clear hcs hsz hk'
      go_wp2_with (fail)
      refine (HC.out _ (sel ss k) HB.out HSZ.out).mono ?_
      rintro e w' ⟨rfl, hb2⟩
      have HB2 := Lib.hid (HB.out.trans (hb2.mono HB.out.size)); clear hb2
      cases ht : P (sel ss k)
      · have HT := Lib.hid ht; clear ht
        go_wp2
        go_ret
        exact ⟨ret_bool (all_no HK.out HT.out).symm, HB2.out⟩
      · have HT := Lib.hid ht; clear ht
        go_wp2
        go_roundw
        case rel =>
          refine ⟨k + 1, by omega, by go_num, fun j hj => ?_, HB2.out⟩
          by_cases hjk : j = k
          · rw [hjk]; exact HT.out
          · exact HA.out j (by omega)
        case measure => simp [intOf]; omega
    · go_wp2
      go_ret
      refine ⟨ret_bool (all_yes fun j hj => HA.out j ?_).symm, HB.out⟩
      have := HN.out
      omega

theorem exn1_walk (s : ByteArray) (w : World) (hs : s.size ≤ maxLen) :
    Calls Tryz.prog 77 #[.string s] w fun e w' => e = .returned (.bool (exnB s)) ∧ Below w.heap.size w w' := by
  go_enter Tryz.func77, Tryz.ntmps77
  go_wp2_with (fail)
  refine (begins_walk s 4 _ hs).mono ?_
  rintro e w' ⟨rfl, hb⟩
  have HB := Lib.hid hb; clear hb
  go_wp2
  go_ret
  exact ⟨rfl, HB.out⟩

theorem exn_walk (p : Option Addr) (n d : Nat) (ss : List ByteArray) (w : World) (hn : ss.length = n) (hm : n ≤ maxLen) (hp : StrsAt w p ss) (hz : Sizes ss) :
    Calls Tryz.prog 54 #[.slice p n d] w fun e w' => e = .returned (.bool (ss.all exnB)) ∧ Below w.heap.size w w' := by
  have hc : Tells 77 exnB w := fun W s hb hs => exn1_walk s W hs
  have HN := Lib.hid hn; have HP := Lib.hid hp; have HZ := Lib.hid hz; have HC := Lib.hid hc
  clear hn hp hz hc
  go_enter Tryz.func54, Tryz.ntmps54
  go_wp2_with (fail)
  refine (all_exn_walk p n d ss exnB _ HN.out hm HP.out HZ.out HC.out).mono ?_
  rintro e w' ⟨rfl, hb⟩
  have HB := Lib.hid hb; clear hb
  go_wp2
  go_ret
  exact ⟨rfl, HB.out⟩
/-- Of one text. -/
theorem exn_one (s : ByteArray) (t : Nat) (w : World) (hs : s.size ≤ maxLen) :
    Calls Tryz.prog 54 #[.slice (some ⟨w.heap.size, 0, none⟩) 1 1] (w.alloc (.cells #[.string s] t)) fun e w' => e = .returned (.bool (exnB s)) ∧ Below w.heap.size w w' := by
  have hb0 : Below w.heap.size w (w.alloc (.cells #[.string s] t)) := (Below.refl _ _).alloc (Nat.le_refl _) _
  refine (exn_walk _ 1 1 [s] _ rfl (by unfold maxLen; omega) (strs_one w t s) (fun x hx => by simp at hx; rw [hx]; exact hs)).mono ?_
  rintro e w' ⟨rfl, hb⟩
  exact ⟨ret_bool (by simp), hb0.trans (hb.mono hb0.size)⟩
/-- Likewise, the block told by its number. -/
theorem exn_at (s : ByteArray) (t N : Nat) (w : World) (hN : N = w.heap.size) (hs : s.size ≤ maxLen) :
    Calls Tryz.prog 54 #[.slice (some ⟨N, 0, none⟩) 1 1] (w.alloc (.cells #[.string s] t)) fun e w' => e = .returned (.bool (exnB s)) ∧ Below w.heap.size w w' := by
  subst hN
  exact exn_one s t w hs
end Words
end Go.Proofs.YtggabjmfdnfckaaGreatDoor
namespace Go.Proofs.YtggabjmfdnfckaaGreatDoor
open Go.RowKit
namespace Words
open Chars (ret_i64 ret_bool cls el isin run spanI BytesAt Bytes bytes_new)

theorem class_in (c : Int) : isin [3, 4, 2] c = decide (2 ≤ c ∧ c ≤ 4) := by
  unfold isin
  rw [decide_eq_decide]
  simp only [List.mem_cons, List.not_mem_nil, or_false]
  omega

set_option maxHeartbeats 400000 in
theorem shape_walk (s : ByteArray) (f : Int) (w : World) (hs : s.size ≤ maxLen) :
    Calls Tryz.prog 75 #[.string s, .int .u8 f] w fun e w' => e = .returned (.bool (wordB f (ints s.data.toList))) ∧ Below w.heap.size w w' := by
  unfold maxLen at hs
  by_cases h0 : s.size = 0
  · have hr : wordB f (ints s.data.toList) = false := by
      rw [show s.data.toList = [] from List.length_eq_zero_iff.1 h0]; exact wordB_nil f
    have h0' : ((s.size : Int) == 0) = true := by simp [h0]
    have HR := Lib.hid hr; have H0 := Lib.hid h0
    clear hr h0
    go_enter Tryz.func75, Tryz.ntmps75
    go_wp2_with (fail)
    go_ret
    exact ⟨ret_bool HR.out.symm, Below.refl _ _⟩
  have h0' : ((s.size : Int) == 0) = false := by simpa using h0
  have hpos : 0 < s.size := by omega
  clear h0
  by_cases h1 : s.size ≤ 16
  · have hcell := el_str s 0 hpos
    have hby := (ints_bytes s.data.toList).el (k := 0) (by rw [ints_size]; exact hpos)
    rw [hcell] at hby
    by_cases h2 : cls (s[0].toNat : Int) = f
    · have hr := wordB_of_allB f (ints s.data.toList) (by intro e; have := ints_size s; rw [e] at this; simp at this; omega) (by rw [ints_size]; exact h1) (by rw [hcell]; exact h2)
      have hyes : (∀ j, j < s.size → isin [3, 4, 2] (cls (el (ints s.data.toList) j)) = true) → wordB f (ints s.data.toList) = true := fun h => by
        rw [hr]
        unfold allB
        refine decide_eq_true fun x hx => ?_
        obtain ⟨j, hj, e⟩ := Chars.mem_el hx
        rw [← e]
        exact h j (by rw [← ints_size]; exact hj)
      have HY := Lib.hid hyes; have H2 := Lib.hid h2; have HBY := Lib.hid hby
      have h2' : (cls (s[0].toNat : Int) != f) = false := by simpa using h2
      clear hr hyes h2 hby hcell
      go_enter Tryz.func75, Tryz.ntmps75
      go_wp2_with (fail)
      refine (Chars.refClass_walk _ HBY.out.1 HBY.out.2 _).mono ?_
      rintro e w' ⟨rfl, hb⟩
      have HB := Lib.hid hb; clear hb
      go_wp2
      clear h2'
      go_loopw [5, 6] (fun i _ wr => ∃ k : Nat, k ≤ s.size ∧ i = .int .i64 k ∧ (∀ j, j < k → isin [3, 4, 2] (cls (el (ints s.data.toList) j)) = true) ∧ Below w.heap.size w wr) (fun i _ _ => s.size - (intOf i).toNat)
      case atStart => exact ⟨0, by omega, rfl, fun j hj => by omega, HB.out⟩
      case round =>
        obtain ⟨k, hk, rfl, ha, hb⟩ := hrel
        have HA := Lib.hid ha; have HW := Lib.hid hb
        clear ha hb
        by_cases hlt : k < s.size
        · have hck := el_str s k hlt
          have hbk := (ints_bytes s.data.toList).el (k := k) (by rw [ints_size]; exact hlt)
          have hci := class_in (cls (s[k].toNat : Int))
          rw [hck] at hbk
          have HCK := Lib.hid hck; have HBK := Lib.hid hbk; have HCI := Lib.hid hci
          clear hck hbk hci
          go_wp2_with (fail)
          refine (Chars.refClass_walk _ HBK.out.1 HBK.out.2 _).mono ?_
          rintro e w' ⟨rfl, hb⟩
          have HW2 := Lib.hid (HW.out.trans (hb.mono HW.out.size)); clear hb
          have hin : isin [3, 4, 2] (cls (el (ints s.data.toList) k)) = isin [3, 4, 2] (cls (s[k].toNat : Int)) := by rw [HCK.out]
          have HIN := Lib.hid hin; clear hin
          generalize hc : cls (s[k].toNat : Int) = c at *
          have HCC := Lib.hid hc; clear hc
          by_cases hc2 : c < 2
          · have hno : isin [3, 4, 2] c = false := by rw [HCI.out]; exact decide_eq_false (by omega)
            have HNO := Lib.hid hno; clear hno
            go_wp2
            go_ret
            exact ⟨ret_bool (wordB_some (k := k) (by rw [ints_size]; exact hlt) (by rw [HIN.out]; exact HNO.out)).symm, HW2.out⟩
          by_cases hc4 : 4 < c
          · have hno : isin [3, 4, 2] c = false := by rw [HCI.out]; exact decide_eq_false (by omega)
            have HNO := Lib.hid hno; clear hno
            go_wp2
            go_ret
            exact ⟨ret_bool (wordB_some (k := k) (by rw [ints_size]; exact hlt) (by rw [HIN.out]; exact HNO.out)).symm, HW2.out⟩
          · have hyes : isin [3, 4, 2] c = true := by rw [HCI.out]; exact decide_eq_true (by omega)
            have HYS := Lib.hid hyes; clear hyes
            go_wp2
            go_roundw
            case rel =>
              refine ⟨k + 1, by omega, by go_num, fun j hj => ?_, HW2.out⟩
              by_cases hjk : j = k
              · rw [hjk, HIN.out]; exact HYS.out
              · exact HA.out j (by omega)
            case measure => simp [intOf]; omega
        · go_wp2
          go_ret
          exact ⟨ret_bool (HY.out fun j hj => HA.out j (by omega)).symm, HW.out⟩
    · have hr : wordB f (ints s.data.toList) = false := wordB_first (by rw [hcell]; exact h2)
      have h2' : (cls (s[0].toNat : Int) != f) = true := by simpa using h2
      have HR := Lib.hid hr; have H2 := Lib.hid h2; have HBY := Lib.hid hby
      clear hr h2 hby hcell
      go_enter Tryz.func75, Tryz.ntmps75
      go_wp2_with (fail)
      refine (Chars.refClass_walk _ HBY.out.1 HBY.out.2 _).mono ?_
      rintro e w' ⟨rfl, hb⟩
      have HB := Lib.hid hb; clear hb
      go_wp2
      go_ret
      exact ⟨ret_bool HR.out.symm, HB.out⟩
  · have hr : wordB f (ints s.data.toList) = false := wordB_long (by rw [ints_size]; exact h1)
    have HR := Lib.hid hr
    clear hr
    go_enter Tryz.func75, Tryz.ntmps75
    go_wp2_with (fail)
    go_ret
    exact ⟨ret_bool HR.out.symm, Below.refl _ _⟩

theorem refExn_walk (s : ByteArray) (w : World) (hs : s.size ≤ maxLen) :
    Calls Tryz.prog 51 #[.string s] w fun e w' => e = .returned (.bool (exnB s)) ∧ Below w.heap.size w w' := by
  go_enter Tryz.func51, Tryz.ntmps51
  go_wp2_with (fail)
  refine (shape_walk s 4 _ hs).mono ?_
  rintro e w' ⟨rfl, hb⟩
  have HB := Lib.hid hb; clear hb
  go_wp2
  go_ret
  exact ⟨rfl, HB.out⟩
end Words
end Go.Proofs.YtggabjmfdnfckaaGreatDoor
