import Derived.Test.YtkfkpjngiffamaaGreatDoorRows
import Derived.Test.YtkfkpjngiffamaaGreatDoorGC00
import Derived.LoopTactic
import Derived.Outline
import Derived.Lib.ConvBytes
import Derived.Lib.SmallJoins
import Derived.Laws.AppendOwn
import Derived.Deep.QuietTactic
import Derived.BigQuiet
import Derived.Deep.Cut
import Derived.Deep.CutRange
import Derived.Deep.RegionHeld3
namespace Go.Proofs.YtkfkpjngiffamaaGreatDoor
open Go.RowKit
namespace Words
open Chars (ret_i64 ret_bool)

def KwLaid (w : World) : Prop := ∀ k, k < 14 → w.cell? ⟨5, k, none⟩ = some (.string (kwT k))
theorem KwLaid.below {w W : World} (h : KwLaid w) (hb : Below w.heap.size w W) : KwLaid W := fun k hk => by
 have hl : 5 < w.heap.size := World.block_lt_of_cell? w _ (h k hk)
 exact (hb.cell (p := ⟨5, k, none⟩) hl).trans (h k hk)

theorem kw_index (k : Nat) (hk : k < 14) (W : World) :
  (Instr.index 177 (.agg #[.string (kwT 0), .string (kwT 1), .string (kwT 2), .string (kwT 3), .string (kwT 4), .string (kwT 5), .string (kwT 6), .string (kwT 7), .string (kwT 8), .string (kwT 9), .string (kwT 10), .string (kwT 11), .string (kwT 12), .string (kwT 13)]) (.int .i64 (k : Int))).run Tryz.prog W = .ok (.string (kwT k)) W := by
 have : k = 0 ∨ k = 1 ∨ k = 2 ∨ k = 3 ∨ k = 4 ∨ k = 5 ∨ k = 6 ∨ k = 7 ∨ k = 8 ∨ k = 9 ∨ k = 10 ∨ k = 11 ∨ k = 12 ∨ k = 13 := by omega
 rcases this with rfl | rfl | rfl | rfl | rfl | rfl | rfl | rfl | rfl | rfl | rfl | rfl | rfl | rfl <;> (show _ = _; kernel_rfl)

set_option maxHeartbeats 400000 in
theorem keyword_walk (s : ByteArray) (w : World) (hl : KwLaid w) :
  Calls Tryz.prog 134 #[.string s] w fun e w' => e = .returned (.int .i64 (kwN s.data.toList : Nat)) ∧ w = w' := by
 have c0 := hl 0 (by omega); have c1 := hl 1 (by omega); have c2 := hl 2 (by omega); have c3 := hl 3 (by omega); have c4 := hl 4 (by omega); have c5 := hl 5 (by omega); have c6 := hl 6 (by omega)
 have c7 := hl 7 (by omega); have c8 := hl 8 (by omega); have c9 := hl 9 (by omega); have c10 := hl 10 (by omega); have c11 := hl 11 (by omega); have c12 := hl 12 (by omega); have c13 := hl 13 (by omega)
 clear hl
 go_enter Tryz.func134, Tryz.ntmps134
 go_wp2
 clear c0 c1 c2 c3 c4 c5 c6 c7 c8 c9 c10 c11 c12 c13
 go_loop [3, 4, 6] (fun _ _ i => ∃ k : Nat, k ≤ 14 ∧ i = .int .i64 k ∧ ∀ j, j < k → kwT j ≠ s) (fun _ _ i => 14 - (intOf i).toNat)
 case atStart => exact ⟨0, by omega, rfl, fun j hj => by omega⟩
 case round =>
  obtain ⟨k, hk, rfl, hn⟩ := hrel
  have HN := Lib.hid hn
  clear hn
  by_cases hlt : k < 14
  ·have hx := kw_index k hlt
   by_cases he : kwT k = s
   ·have he' := str_yes he
    have HE := Lib.hid he; clear he
    go_wp2
    go_ret
    refine ⟨ret_i64 ?_, rfl⟩
    rw [kwN_hit s k hlt HE.out HN.out]
    omega
   ·have he' := str_no he
    have HE := Lib.hid he; clear he
    go_wp2
    go_round
    case rel =>
     refine ⟨k + 1, by omega, by go_num, fun j hj => ?_⟩
     by_cases hjk : j = k
     ·rw [hjk]; exact HE.out
     ·exact HN.out j (by omega)
    case measure => simp [intOf]; omega
  ·go_wp2
   go_ret
   refine ⟨ret_i64 ?_, rfl⟩
   rw [kwN_miss s fun j hj => HN.out j (by omega)]
   rfl

theorem refKeywords_walk (w : World) :
  Calls Tryz.prog 95 #[] w fun e w' => e = .returned (.slice (some ⟨w.heap.size, 0, none⟩) 14 14) ∧ Below w.heap.size w w' ∧ ∀ k, k < 14 → w'.cell? ⟨w.heap.size, k, none⟩ = some (.string (kwT k)) := by
 go_enter Tryz.func95, Tryz.ntmps95
 go_wp2
 go_ret
 refine ⟨rfl, (Below.refl _ _).alloc (Nat.le_refl _) _, fun k hk => ?_⟩
 have : k = 0 ∨ k = 1 ∨ k = 2 ∨ k = 3 ∨ k = 4 ∨ k = 5 ∨ k = 6 ∨ k = 7 ∨ k = 8 ∨ k = 9 ∨ k = 10 ∨ k = 11 ∨ k = 12 ∨ k = 13 := by omega
 rcases this with rfl | rfl | rfl | rfl | rfl | rfl | rfl | rfl | rfl | rfl | rfl | rfl | rfl | rfl <;> simp [go_sem, kwT, kwTexts]

set_option maxHeartbeats 400000 in
theorem refKeyword_walk (s : ByteArray) (w : World) :
  Calls Tryz.prog 75 #[.string s] w fun e w' => e = .returned (.int .i64 (kwN s.data.toList : Nat)) ∧ Below w.heap.size w w' := by
 go_enter Tryz.func75, Tryz.ntmps75
 go_wp2_with (fail)
 refine (refKeywords_walk _).mono ?_
 rintro e w1 ⟨rfl, hb, hc⟩
 have HB := Lib.hid hb; have HC := Lib.hid hc
 clear hb hc
 go_wp2
 go_loop [4, 8] (fun _ i => ∃ k : Nat, k ≤ 14 ∧ i = .int .i64 k ∧ ∀ j, j < k → kwT j ≠ s) (fun _ i => 14 - (intOf i).toNat)
 case atStart => exact ⟨0, by omega, rfl, fun j hj => by omega⟩
 case round =>
  obtain ⟨k, hk, rfl, hn⟩ := hrel
  have HN := Lib.hid hn
  clear hn
  by_cases hlt : k < 14
  ·have hx := HC.out k hlt
   by_cases he : kwT k = s
   ·have he' := str_yes he
    have HE := Lib.hid he; clear he
    go_wp2
    go_ret
    refine ⟨ret_i64 ?_, HB.out⟩
    rw [kwN_hit s k hlt HE.out HN.out]
    omega
   ·have he' := str_no he
    have HE := Lib.hid he; clear he
    go_wp2
    go_round
    case rel =>
     refine ⟨k + 1, by omega, by go_num, fun j hj => ?_⟩
     by_cases hjk : j = k
     ·rw [hjk]; exact HE.out
     ·exact HN.out j (by omega)
    case measure => simp [intOf]; omega
  ·go_wp2
   go_ret
   refine ⟨ret_i64 ?_, HB.out⟩
   rw [kwN_miss s fun j hj => HN.out j (by omega)]
   rfl
end Words
end Go.Proofs.YtkfkpjngiffamaaGreatDoor
namespace Go.Proofs.YtkfkpjngiffamaaGreatDoor
open Go.RowKit
namespace Words
open Chars (ret_i64 ret_bool cls el isin run spanI BytesAt Bytes bytes_new)

theorem size_list (s : ByteArray) : s.data.toList.length = s.size := rfl
theorem ints_size (s : ByteArray) : (ints s.data.toList).length = s.size := by rw [ints_length, size_list]
theorem el_str (s : ByteArray) (k : Nat) (h : k < s.size) : el (ints s.data.toList) k = (s[k].toNat : Int) := by
 rw [el_ints _ k (by rw [size_list]; exact h)]
 rfl
theorem span_zero (ys xs : List Int) : spanI ys xs 0 = (run ys xs : Nat) := by
 unfold spanI
 cases xs with
 | nil => rfl
 | cons x xs => rw [if_pos (by simp)]; rfl
theorem bytesAt_new (w : World) (t : Nat) (s : ByteArray) : BytesAt (Lib.bytesWorld w t s) (some ⟨w.heap.size, 0, none⟩) (ints s.data.toList) := by
 refine .inr ⟨w.heap.size, 0, rfl, fun i hi => ?_⟩
 rw [ints_size] at hi
 rw [Nat.zero_add, Lib.bytesWorld_cell w t s i hi]
 have := el_str s i hi
 unfold el at this
 rw [this, List.getD_eq_getElem?_getD, List.getElem?_eq_getElem (by rw [size_list]; exact hi)]
 rfl

set_option maxHeartbeats 400000 in
theorem whole_walk (s : ByteArray) (q : Option Addr) (m d : Nat) (ys : List Int) (w : World) (hs : s.size ≤ maxLen) (hy : ys.length = m) (hm : m ≤ maxLen) (hq : BytesAt w q ys) :
  Calls Tryz.prog 147 #[.string s, .slice q m d] w fun e w' => e = .returned (.bool (allB ys (ints s.data.toList))) ∧ Below w.heap.size w w' := by
 have hcv := fun W : World => Lib.run_convert_string_bytes (P := Tryz.prog) W 9 63 5 s (u := .string) Tryz.underlying9 Tryz.underlying63 Tryz.underlying5
 have hb : Below w.heap.size w (Lib.bytesWorld w 5 s) := Go.Joins.below_bytesWorld _ _ _ _ (Nat.le_refl _)
 have hc := grownCap_le_maxLen w s.size 0 5 hs
 have hg := grownCap_ge w s.size 0 5
 have HB := Lib.hid hb; have HC := Lib.hid hc; have HG := Lib.hid hg; have HQ := Lib.hid hq; have HY := Lib.hid hy; have HM := Lib.hid hm
 clear hb hc hg hq hy hm
 go_enter Tryz.func147, Tryz.ntmps147
 go_wp2_with (fail)
 refine (Chars.span_walk _ s.size _ (ints s.data.toList) 0 q m d ys _ (ints_size s) HG.out HC.out (bytesAt_new w _ s) (ints_bytes _) HY.out HM.out (HQ.out.below HB.out)).mono ?_
 rintro e w' ⟨rfl, hb2⟩
 have HB2 := Lib.hid (HB.out.trans (hb2.mono HB.out.size)); clear hb2
 unfold maxLen at hs
 go_wp2
 go_ret
 refine ⟨ret_bool ?_, HB2.out⟩
 rw [span_zero, ← ints_size s, run_allB]

theorem cells3 (w : World) (t : Nat) : BytesAt (w.alloc (.cells #[.int .u8 3, .int .u8 4, .int .u8 2] t)) (some ⟨w.heap.size, 0, none⟩) [3, 4, 2] := bytes_new w _ _ _ _ _ rfl rfl

set_option maxHeartbeats 400000 in
theorem begins_walk (s : ByteArray) (f : Int) (w : World) (hs : s.size ≤ maxLen) :
  Calls Tryz.prog 133 #[.string s, .int .u8 f] w fun e w' => e = .returned (.bool (wordB f (ints s.data.toList))) ∧ Below w.heap.size w w' := by
 by_cases h0 : s.size = 0
 ·have hn : s.toList = [] := by rw [Lib.toList_data]; exact List.length_eq_zero_iff.1 h0
  have hr : wordB f (ints s.data.toList) = false := by
   rw [show s.data.toList = [] from List.length_eq_zero_iff.1 h0]; exact wordB_nil f
  have HR := Lib.hid hr
  clear hr h0
  go_enter Tryz.func133, Tryz.ntmps133
  go_wp2_with (fail)
  go_ret
  exact ⟨ret_bool HR.out.symm, Below.refl _ _⟩
 have hne : s.toList ≠ [] := by rw [Lib.toList_data]; exact fun e => h0 (by rw [← size_list, e]; rfl)
 have hne' : (!s.toList.isEmpty) = true := by simpa using hne
 have hpos : 0 < s.size := by omega
 clear h0
 by_cases h1 : s.size ≤ 16
 ·have hcell := el_str s 0 hpos
  have hby := (ints_bytes s.data.toList).el (k := 0) (by rw [ints_size]; exact hpos)
  rw [hcell] at hby
  by_cases h2 : cls (s[0].toNat : Int) = f
  ·have hr := wordB_of_allB f (ints s.data.toList) (by intro e; have := ints_size s; rw [e] at this; simp at this; omega) (by rw [ints_size]; exact h1) (by rw [hcell]; exact h2)
   have HR := Lib.hid hr; have H2 := Lib.hid h2; have HBY := Lib.hid hby; have HS := Lib.hid hs
   have h2' : (cls (s[0].toNat : Int) == f) = true := by simpa using h2
   clear hr h2 hby hcell hs
   go_enter Tryz.func133, Tryz.ntmps133
   go_wp2_with (fail)
   refine (Chars.class_walk _ HBY.out.1 HBY.out.2 _).mono ?_
   rintro e w' ⟨rfl, rfl⟩
   go_wp2_with (fail)
   refine (whole_walk s _ 3 3 [3, 4, 2] _ HS.out rfl (by unfold maxLen; omega) (cells3 w _)).mono ?_
   rintro e w' ⟨rfl, hb⟩
   have HB := Lib.hid hb; clear hb
   go_wp2
   go_ret
   exact ⟨ret_bool HR.out.symm, ((Below.refl _ _).alloc (Nat.le_refl _) _).trans (HB.out.mono (by simp))⟩
  ·have hr : wordB f (ints s.data.toList) = false := wordB_first (by rw [hcell]; exact h2)
   have h2' : (cls (s[0].toNat : Int) == f) = false := by simpa using h2
   have HR := Lib.hid hr; have H2 := Lib.hid h2; have HBY := Lib.hid hby
   clear hr h2 hby hcell hs
   go_enter Tryz.func133, Tryz.ntmps133
   go_wp2_with (fail)
   refine (Chars.class_walk _ HBY.out.1 HBY.out.2 _).mono ?_
   rintro e w' ⟨rfl, rfl⟩
   go_wp2
   go_ret
   exact ⟨ret_bool HR.out.symm, Below.refl _ _⟩
 ·have hr : wordB f (ints s.data.toList) = false := wordB_long (by rw [ints_size]; exact h1)
  have HR := Lib.hid hr
  clear hr
  unfold maxLen at hs
  go_enter Tryz.func133, Tryz.ntmps133
  go_wp2_with (fail)
  go_ret
  exact ⟨ret_bool HR.out.symm, Below.refl _ _⟩

end Words
end Go.Proofs.YtkfkpjngiffamaaGreatDoor
namespace Go.Proofs.YtkfkpjngiffamaaGreatDoor
open Go.RowKit
namespace Words
open Chars (ret_i64 ret_bool cls el isin run spanI BytesAt Bytes bytes_new)

theorem class_in (c : Int) : isin [3, 4, 2] c = decide (2 ≤ c ∧ c ≤ 4) := by
 unfold isin
 rw [decide_eq_decide]
 simp only [List.mem_cons, List.not_mem_nil, or_false]
 omega

set_option maxHeartbeats 400000 in
theorem shape_walk (s : ByteArray) (f : Int) (w : World) (hs : s.size ≤ maxLen) :
  Calls Tryz.prog 74 #[.string s, .int .u8 f] w fun e w' => e = .returned (.bool (wordB f (ints s.data.toList))) ∧ Below w.heap.size w w' := by
 unfold maxLen at hs
 by_cases h0 : s.size = 0
 ·have hr : wordB f (ints s.data.toList) = false := by
   rw [show s.data.toList = [] from List.length_eq_zero_iff.1 h0]; exact wordB_nil f
  have h0' : ((s.size : Int) == 0) = true := by simp [h0]
  have HR := Lib.hid hr; have H0 := Lib.hid h0
  clear hr h0
  go_enter Tryz.func74, Tryz.ntmps74
  go_wp2_with (fail)
  go_ret
  exact ⟨ret_bool HR.out.symm, Below.refl _ _⟩
 have h0' : ((s.size : Int) == 0) = false := by simpa using h0
 have hpos : 0 < s.size := by omega
 clear h0
 by_cases h1 : s.size ≤ 16
 ·have hcell := el_str s 0 hpos
  have hby := (ints_bytes s.data.toList).el (k := 0) (by rw [ints_size]; exact hpos)
  rw [hcell] at hby
  by_cases h2 : cls (s[0].toNat : Int) = f
  ·have hr := wordB_of_allB f (ints s.data.toList) (by intro e; have := ints_size s; rw [e] at this; simp at this; omega) (by rw [ints_size]; exact h1) (by rw [hcell]; exact h2)
   have hyes : (∀ j, j < s.size → isin [3, 4, 2] (cls (el (ints s.data.toList) j)) = true) → wordB f (ints s.data.toList) = true := fun h => by
    rw [hr]
    unfold allB
    refine decide_eq_true fun x hx => ?_
    obtain ⟨j, hj, e⟩ := Chars.mem_el hx
    rw [← e]
    exact h j (by rw [← ints_size]; exact hj)
   have HY := Lib.hid hyes; have H2 := Lib.hid h2; have HBY := Lib.hid hby
   have h2' : (cls (s[0].toNat : Int) != f) = false := by simpa using h2
   clear hr hyes h2 hby hcell
   go_enter Tryz.func74, Tryz.ntmps74
   go_wp2_with (fail)
   refine (Chars.refClass_walk _ HBY.out.1 HBY.out.2 _).mono ?_
   rintro e w' ⟨rfl, hb⟩
   have HB := Lib.hid hb; clear hb
   go_wp2
   clear h2'
   go_loopw [5, 6] (fun i _ wr => ∃ k : Nat, k ≤ s.size ∧ i = .int .i64 k ∧ (∀ j, j < k → isin [3, 4, 2] (cls (el (ints s.data.toList) j)) = true) ∧ Below w.heap.size w wr) (fun i _ _ => s.size - (intOf i).toNat)
   case atStart => exact ⟨0, by omega, rfl, fun j hj => by omega, HB.out⟩
   case round =>
    obtain ⟨k, hk, rfl, ha, hb⟩ := hrel
    have HA := Lib.hid ha; have HW := Lib.hid hb
    clear ha hb
    by_cases hlt : k < s.size
    ·have hck := el_str s k hlt
     have hbk := (ints_bytes s.data.toList).el (k := k) (by rw [ints_size]; exact hlt)
     have hci := class_in (cls (s[k].toNat : Int))
     rw [hck] at hbk
     have HCK := Lib.hid hck; have HBK := Lib.hid hbk; have HCI := Lib.hid hci
     clear hck hbk hci
     go_wp2_with (fail)
     refine (Chars.refClass_walk _ HBK.out.1 HBK.out.2 _).mono ?_
     rintro e w' ⟨rfl, hb⟩
     have HW2 := Lib.hid (HW.out.trans (hb.mono HW.out.size)); clear hb
     have hin : isin [3, 4, 2] (cls (el (ints s.data.toList) k)) = isin [3, 4, 2] (cls (s[k].toNat : Int)) := by rw [HCK.out]
     have HIN := Lib.hid hin; clear hin
     generalize hc : cls (s[k].toNat : Int) = c at *
     have HCC := Lib.hid hc; clear hc
     by_cases hc2 : c < 2
     ·have hno : isin [3, 4, 2] c = false := by rw [HCI.out]; exact decide_eq_false (by omega)
      have HNO := Lib.hid hno; clear hno
      go_wp2
      go_ret
      exact ⟨ret_bool (wordB_some (k := k) (by rw [ints_size]; exact hlt) (by rw [HIN.out]; exact HNO.out)).symm, HW2.out⟩
     by_cases hc4 : 4 < c
     ·have hno : isin [3, 4, 2] c = false := by rw [HCI.out]; exact decide_eq_false (by omega)
      have HNO := Lib.hid hno; clear hno
      go_wp2
      go_ret
      exact ⟨ret_bool (wordB_some (k := k) (by rw [ints_size]; exact hlt) (by rw [HIN.out]; exact HNO.out)).symm, HW2.out⟩
     ·have hyes : isin [3, 4, 2] c = true := by rw [HCI.out]; exact decide_eq_true (by omega)
      have HYS := Lib.hid hyes; clear hyes
      go_wp2
      go_roundw
      case rel =>
       refine ⟨k + 1, by omega, by go_num, fun j hj => ?_, HW2.out⟩
       by_cases hjk : j = k
       ·rw [hjk, HIN.out]; exact HYS.out
       ·exact HA.out j (by omega)
      case measure => simp [intOf]; omega
    ·go_wp2
     go_ret
     exact ⟨ret_bool (HY.out fun j hj => HA.out j (by omega)).symm, HW.out⟩
  ·have hr : wordB f (ints s.data.toList) = false := wordB_first (by rw [hcell]; exact h2)
   have h2' : (cls (s[0].toNat : Int) != f) = true := by simpa using h2
   have HR := Lib.hid hr; have H2 := Lib.hid h2; have HBY := Lib.hid hby
   clear hr h2 hby hcell
   go_enter Tryz.func74, Tryz.ntmps74
   go_wp2_with (fail)
   refine (Chars.refClass_walk _ HBY.out.1 HBY.out.2 _).mono ?_
   rintro e w' ⟨rfl, hb⟩
   have HB := Lib.hid hb; clear hb
   go_wp2
   go_ret
   exact ⟨ret_bool HR.out.symm, HB.out⟩
 ·have hr : wordB f (ints s.data.toList) = false := wordB_long (by rw [ints_size]; exact h1)
  have HR := Lib.hid hr
  clear hr
  go_enter Tryz.func74, Tryz.ntmps74
  go_wp2_with (fail)
  go_ret
  exact ⟨ret_bool HR.out.symm, Below.refl _ _⟩

theorem refName_walk (s : ByteArray) (w : World) (hs : s.size ≤ maxLen) :
  Calls Tryz.prog 55 #[.string s] w fun e w' => e = .returned (.bool (nameB s)) ∧ Below w.heap.size w w' := by
 cases hw : wordB 3 (ints s.data.toList)
 ·have hr : nameB s = false := by unfold nameB; rw [hw]; rfl
  have HR := Lib.hid hr; have HW := Lib.hid hw
  clear hr hw
  go_enter Tryz.func55, Tryz.ntmps55
  go_wp2_with (fail)
  refine (shape_walk s 3 _ hs).mono ?_
  rw [HW.out]
  rintro e w' ⟨rfl, hb⟩
  have HB := Lib.hid hb; clear hb
  go_wp2
  go_ret
  exact ⟨ret_bool HR.out.symm, HB.out⟩
 ·have hr : nameB s = ((kwN s.data.toList : Int) == 0) := by
   unfold nameB; rw [hw, Bool.true_and, Bool.eq_iff_iff]; simp
  have HR := Lib.hid hr; have HW := Lib.hid hw
  clear hr hw
  go_enter Tryz.func55, Tryz.ntmps55
  go_wp2_with (fail)
  refine (shape_walk s 3 _ hs).mono ?_
  rw [HW.out]
  rintro e w' ⟨rfl, hb⟩
  have HB := Lib.hid hb; clear hb
  go_wp2_with (fail)
  refine (refKeyword_walk s _).mono ?_
  rintro e w2 ⟨rfl, hb⟩
  have HB2 := Lib.hid (HB.out.trans (hb.mono HB.out.size)); clear hb
  generalize kwN s.data.toList = N at *
  go_wp2
  go_ret
  exact ⟨ret_bool HR.out.symm, HB2.out⟩
theorem refExn_walk (s : ByteArray) (w : World) (hs : s.size ≤ maxLen) :
  Calls Tryz.prog 73 #[.string s] w fun e w' => e = .returned (.bool (exnB s)) ∧ Below w.heap.size w w' := by
 go_enter Tryz.func73, Tryz.ntmps73
 go_wp2_with (fail)
 refine (shape_walk s 4 _ hs).mono ?_
 rintro e w' ⟨rfl, hb⟩
 have HB := Lib.hid hb; clear hb
 go_wp2
 go_ret
 exact ⟨rfl, HB.out⟩
end Words
end Go.Proofs.YtkfkpjngiffamaaGreatDoor
namespace Go.Proofs.YtkfkpjngiffamaaGreatDoor
open Go.RowKit
set_option linter.unusedVariables false
namespace Term
open Words (nameB exnB)

def kidsN (k : Int) : Int :=
 if k = 1 ∨ k = 2 then 0 else if k = 4 ∨ k = 5 ∨ k = 6 ∨ k = 7 ∨ k = 11 ∨ k = 15 then 1 else if k = 3 ∨ k = 8 ∨ k = 9 ∨ k = 10 ∨ k = 12 ∨ k = 13 ∨ k = 16 then 2 else if k = 14 then 3 else -1
theorem kidsN_none {k : Int} (h : k < 1 ∨ 16 < k) : kidsN k = -1 := by unfold kidsN; repeat' split; all_goals omega

set_option maxHeartbeats 1600000 in
theorem refKids_walk (k : Int) (h0 : 0 ≤ k) (h1 : k ≤ 255) (w : World) :
  Calls Tryz.prog 76 #[.int .u8 k] w fun e w' => e = .returned (.int .i64 (kidsN k)) ∧ w = w' := by
 by_cases hk : 1 ≤ k ∧ k ≤ 16
 ·have hh : k = 1 ∨ k = 2 ∨ k = 3 ∨ k = 4 ∨ k = 5 ∨ k = 6 ∨ k = 7 ∨ k = 8 ∨ k = 9 ∨ k = 10 ∨ k = 11 ∨ k = 12 ∨ k = 13 ∨ k = 14 ∨ k = 15 ∨ k = 16 := by omega
  clear hk
  rcases hh with rfl | rfl | rfl | rfl | rfl | rfl | rfl | rfl | rfl | rfl | rfl | rfl | rfl | rfl | rfl | rfl
  all_goals
   go_enter Tryz.func76, Tryz.ntmps76
   go_wp2
   go_ret
   exact ⟨ret_i64 (by decide), rfl⟩
 ·have hr := kidsN_none (k := k) (by omega)
  have hne : ∀ v : Int, 1 ≤ v → v ≤ 16 → (k == v) = false := fun v h2 h3 => by rw [beq_eq_false_iff_ne]; omega
  have e1 := hne 1 (by omega) (by omega); have e2 := hne 2 (by omega) (by omega); have e3 := hne 3 (by omega) (by omega); have e4 := hne 4 (by omega) (by omega)
  have e5 := hne 5 (by omega) (by omega); have e6 := hne 6 (by omega) (by omega); have e7 := hne 7 (by omega) (by omega); have e8 := hne 8 (by omega) (by omega)
  have e9 := hne 9 (by omega) (by omega); have e10 := hne 10 (by omega) (by omega); have e11 := hne 11 (by omega) (by omega); have e12 := hne 12 (by omega) (by omega)
  have e13 := hne 13 (by omega) (by omega); have e14 := hne 14 (by omega) (by omega); have e15 := hne 15 (by omega) (by omega); have e16 := hne 16 (by omega) (by omega)
  have HR := Lib.hid hr
  clear hr hne hk
  go_enter Tryz.func76, Tryz.ntmps76
  go_wp2
  go_ret
  exact ⟨ret_i64 HR.out.symm, rfl⟩

def fitsB (there : Bool) (s : ByteArray) (ok : Bool) : Bool := if there = true then ok else decide (s.size = 0)
theorem fits_walk (there : Bool) (s : ByteArray) (ok : Bool) (w : World) :
  Calls Tryz.prog 77 #[.bool there, .string s, .bool ok] w fun e w' => e = .returned (.bool (fitsB there s ok)) ∧ w = w' := by
 cases there
 ·by_cases h0 : s.size = 0
  ·have hn : s.toList = [] := by rw [Lib.toList_data]; exact List.length_eq_zero_iff.1 h0
   have hr : fitsB false s ok = true := by unfold fitsB; simp [h0]
   have HR := Lib.hid hr
   clear hr h0
   go_enter Tryz.func77, Tryz.ntmps77
   go_wp2
   go_ret
   exact ⟨ret_bool HR.out.symm, rfl⟩
  ·have hne : s.toList ≠ [] := by rw [Lib.toList_data]; exact fun e => h0 (by have := congrArg List.length e; simpa using this)
   have hne' : (!s.toList.isEmpty) = true := by simpa using hne
   have hne2 : s.toList.isEmpty = false := by simpa using hne
   have hr : fitsB false s ok = false := by unfold fitsB; simp [h0]
   have HR := Lib.hid hr
   clear hr h0
   go_enter Tryz.func77, Tryz.ntmps77
   go_wp2
   go_ret
   exact ⟨ret_bool HR.out.symm, rfl⟩
 ·cases ok
  all_goals
   go_enter Tryz.func77, Tryz.ntmps77
   go_wp2
   go_ret
   exact ⟨ret_bool (by unfold fitsB; rfl), rfl⟩
end Term
end Go.Proofs.YtkfkpjngiffamaaGreatDoor
namespace Go.Proofs.YtkfkpjngiffamaaGreatDoor
open Go.RowKit
set_option linter.unusedVariables false
namespace Term
open Words (nameB exnB)

def opOk (h : Hd) : Prop := if h.k = 9 then 1 ≤ h.op ∧ h.op ≤ 5 else h.op = 0
def nOk (h : Hd) : Prop := 0 ≤ h.n ∧ h.n ≤ 2147483647 ∧ (h.k ≠ 1 → h.n = 0)
instance (h : Hd) : Decidable (opOk h) := by unfold opOk; infer_instance
instance (h : Hd) : Decidable (nOk h) := by unfold nOk; infer_instance
def nameF (k : Int) : Bool := decide (k = 2 ∨ k = 12 ∨ k = 13)
def argF (k : Int) : Bool := decide (k = 11 ∨ k = 13 ∨ k = 16)
def exnF (k : Int) : Bool := decide (k = 15 ∨ k = 16)
def nodeB (h : Hd) (l : Nat) : Bool := decide (kidsN h.k = l ∧ 0 ≤ h.pl ∧ opOk h ∧ nOk h) && (fitsB (nameF h.k) h.name (nameB h.name) && fitsB (argF h.k) h.arg (nameB h.arg) && fitsB (exnF h.k) h.exn (exnB h.exn))
theorem nodeB_no {h : Hd} {l : Nat} (hn : ¬ (kidsN h.k = l ∧ 0 ≤ h.pl ∧ opOk h ∧ nOk h)) : nodeB h l = false := by unfold nodeB; rw [decide_eq_false hn]; rfl
theorem nodeB_yes {h : Hd} {l : Nat} (hn : kidsN h.k = l ∧ 0 ≤ h.pl ∧ opOk h ∧ nOk h) : nodeB h l = (fitsB (nameF h.k) h.name (nameB h.name) && fitsB (argF h.k) h.arg (nameB h.arg) && fitsB (exnF h.k) h.exn (exnB h.exn)) := by unfold nodeB; rw [decide_eq_true hn]; rfl

set_option maxRecDepth 100000 in
set_option maxHeartbeats 3200000 in
theorem node_kids (k op pl nn : Int) (nm ar ex : ByteArray) (p : Option Addr) (l c : Nat) (w : World) (hk : 0 ≤ k ∧ k ≤ 255) (hl : l ≤ 9223372036854775807) (hb : ¬ (kidsN k = l ∧ 0 ≤ pl)) :
  Calls Tryz.prog 56 #[.agg #[.int .u8 k, .int .u8 op, .int .i64 pl, .int .i64 nn, .string nm, .string ar, .string ex, .slice p l c]] w fun e w' => e = .returned (.bool false) ∧ Below w.heap.size w w' := by
 have hbox : ∀ O : Obj, ∀ q, Below w.heap.size w ((w.alloc O).drewN q) := fun O q => ⟨rfl, rfl, rfl, by simp [World.drewN], fun i hi => Below.heap_alloc _ _ _ hi⟩
 have HBOX := Lib.hid hbox
 have hkc := fun W => refKids_walk k hk.1 hk.2 W
 have HKC := Lib.hid hkc
 obtain ⟨K, hK⟩ : ∃ K, K = kidsN k := ⟨_, rfl⟩
 rw [← hK] at hb hkc
 have HKC := Lib.hid hkc
 clear hbox hkc hK
 by_cases h1 : K < 0
 ·clear hb
  go_enter Tryz.func56, Tryz.ntmps56
  go_wp2_with (fail)
  go_quiet ((go_at_call 76; exact Calls.quiet_of_same ((HKC.out _).mono fun _ _ h => ⟨h.1, h.2.symm⟩)))
  go_wp2_with (fail)
  go_ret
  exact ⟨rfl, HBOX.out _ _⟩
 by_cases h2 : K = (l : Int)
 ·have h3 : pl < 0 := by omega
  have n1 : ((l : Int) != K) = false := by rw [h2]; simp
  have hd : decide (K < 0) = false := by simpa using h1
  have H2 := Lib.hid h2
  clear hb h2
  go_enter Tryz.func56, Tryz.ntmps56
  go_wp2_with (fail)
  go_quiet ((go_at_call 76; exact Calls.quiet_of_same ((HKC.out _).mono fun _ _ h => ⟨h.1, h.2.symm⟩)))
  go_wp2_with (fail)
  go_ret
  exact ⟨rfl, HBOX.out _ _⟩
 ·have n1 : ((l : Int) != K) = true := by rw [bne_iff_ne]; exact fun e => h2 e.symm
  have hd : decide (K < 0) = false := by simpa using h1
  clear hb
  go_enter Tryz.func56, Tryz.ntmps56
  go_wp2_with (fail)
  go_quiet ((go_at_call 76; exact Calls.quiet_of_same ((HKC.out _).mono fun _ _ h => ⟨h.1, h.2.symm⟩)))
  go_wp2_with (fail)
  go_ret
  exact ⟨rfl, HBOX.out _ _⟩

set_option maxRecDepth 100000 in
set_option maxHeartbeats 3200000 in
theorem node_ops (k op pl nn : Int) (nm ar ex : ByteArray) (p : Option Addr) (l c : Nat) (w : World) (hk : 0 ≤ k ∧ k ≤ 255) (hop : 0 ≤ op ∧ op ≤ 255) (hl : l ≤ 9223372036854775807) (hb : kidsN k = l) (hpl : 0 ≤ pl) (ho : ¬ opOk ⟨k, op, pl, nn, nm, ar, ex⟩) :
  Calls Tryz.prog 56 #[.agg #[.int .u8 k, .int .u8 op, .int .i64 pl, .int .i64 nn, .string nm, .string ar, .string ex, .slice p l c]] w fun e w' => e = .returned (.bool false) ∧ Below w.heap.size w w' := by
 have hbox : ∀ O : Obj, ∀ q, Below w.heap.size w ((w.alloc O).drewN q) := fun O q => ⟨rfl, rfl, rfl, by simp [World.drewN], fun i hi => Below.heap_alloc _ _ _ hi⟩
 have HBOX := Lib.hid hbox
 have hkc := fun W => refKids_walk k hk.1 hk.2 W
 rw [hb] at hkc
 have HKC := Lib.hid hkc
 have n1 : ((l : Int) != (l : Int)) = false := by simp
 have hd : decide ((l : Int) < 0) = false := by simp
 clear hbox hkc hb
 unfold opOk at ho
 simp only at ho
 by_cases h9 : k = 9
 ·rw [if_pos h9] at ho
  have t1 : (k == 9) = true := by simpa using h9
  have t2 : (k != 9) = false := by simpa using h9
  have H9 := Lib.hid h9
  clear h9
  by_cases h1 : op < 1
  ·clear ho
   go_enter Tryz.func56, Tryz.ntmps56
   go_wp2_with (fail)
   go_quiet ((go_at_call 76; exact Calls.quiet_of_same ((HKC.out _).mono fun _ _ h => ⟨h.1, h.2.symm⟩)))
   go_wp2_with (fail)
   go_ret
   exact ⟨rfl, HBOX.out _ _⟩
  ·have h5 : 5 < op := by omega
   clear ho
   go_enter Tryz.func56, Tryz.ntmps56
   go_wp2_with (fail)
   go_quiet ((go_at_call 76; exact Calls.quiet_of_same ((HKC.out _).mono fun _ _ h => ⟨h.1, h.2.symm⟩)))
   go_wp2_with (fail)
   go_ret
   exact ⟨rfl, HBOX.out _ _⟩
 ·rw [if_neg h9] at ho
  have t1 : (k == 9) = false := by simpa using h9
  have t2 : (k != 9) = true := by simpa using h9
  have t3 : (op != 0) = true := by simpa using ho
  have H9 := Lib.hid h9
  clear h9 ho
  go_enter Tryz.func56, Tryz.ntmps56
  go_wp2_with (fail)
  go_quiet ((go_at_call 76; exact Calls.quiet_of_same ((HKC.out _).mono fun _ _ h => ⟨h.1, h.2.symm⟩)))
  go_wp2_with (fail)
  go_ret
  exact ⟨rfl, HBOX.out _ _⟩

set_option maxRecDepth 100000 in
set_option maxHeartbeats 6400000 in
theorem node_ns (k op pl nn : Int) (nm ar ex : ByteArray) (p : Option Addr) (l c : Nat) (w : World) (hk : 0 ≤ k ∧ k ≤ 255) (hop : 0 ≤ op ∧ op ≤ 255) (hl : l ≤ 9223372036854775807) (hb : kidsN k = l) (hpl : 0 ≤ pl) (ho : opOk ⟨k, op, pl, nn, nm, ar, ex⟩) (hn : ¬ nOk ⟨k, op, pl, nn, nm, ar, ex⟩) :
  Calls Tryz.prog 56 #[.agg #[.int .u8 k, .int .u8 op, .int .i64 pl, .int .i64 nn, .string nm, .string ar, .string ex, .slice p l c]] w fun e w' => e = .returned (.bool false) ∧ Below w.heap.size w w' := by
 have hbox : ∀ O : Obj, ∀ q, Below w.heap.size w ((w.alloc O).drewN q) := fun O q => ⟨rfl, rfl, rfl, by simp [World.drewN], fun i hi => Below.heap_alloc _ _ _ hi⟩
 have HBOX := Lib.hid hbox
 have hkc := fun W => refKids_walk k hk.1 hk.2 W
 rw [hb] at hkc
 have HKC := Lib.hid hkc
 have n1 : ((l : Int) != (l : Int)) = false := by simp
 have hd : decide ((l : Int) < 0) = false := by simp
 clear hbox hkc hb
 unfold opOk at ho
 unfold nOk at hn
 simp only at ho hn
 have hways : nn < 0 ∨ 2147483647 < nn ∨ (¬ nn < 0 ∧ ¬ 2147483647 < nn ∧ k ≠ 1 ∧ nn ≠ 0) := by
  by_cases a : nn < 0
  ·exact .inl a
  by_cases b : 2147483647 < nn
  ·exact .inr (.inl b)
  refine .inr (.inr ⟨a, b, fun e => hn ⟨by omega, by omega, fun h => absurd e h⟩, fun e => hn ⟨by omega, by omega, fun _ => e⟩⟩)
 clear hn
 by_cases h9 : k = 9
 ·rw [if_pos h9] at ho
  obtain ⟨o1, o5⟩ := ho
  have t1 : (k == 9) = true := by simpa using h9
  have t2 : (k != 9) = false := by simpa using h9
  have H9 := Lib.hid h9
  clear h9
  rcases hways with h | h | ⟨a, b, h1, h0⟩
  ·go_enter Tryz.func56, Tryz.ntmps56
   go_wp2_with (fail)
   go_quiet ((go_at_call 76; exact Calls.quiet_of_same ((HKC.out _).mono fun _ _ h => ⟨h.1, h.2.symm⟩)))
   go_wp2_with (fail)
   go_ret
   exact ⟨rfl, HBOX.out _ _⟩
  ·go_enter Tryz.func56, Tryz.ntmps56
   go_wp2_with (fail)
   go_quiet ((go_at_call 76; exact Calls.quiet_of_same ((HKC.out _).mono fun _ _ h => ⟨h.1, h.2.symm⟩)))
   go_wp2_with (fail)
   go_ret
   exact ⟨rfl, HBOX.out _ _⟩
  ·have u1 : (k != 1) = true := by simpa using h1
   have u0 : (nn != 0) = true := by simpa using h0
   clear h1 h0
   go_enter Tryz.func56, Tryz.ntmps56
   go_wp2_with (fail)
   go_quiet ((go_at_call 76; exact Calls.quiet_of_same ((HKC.out _).mono fun _ _ h => ⟨h.1, h.2.symm⟩)))
   go_wp2_with (fail)
   go_ret
   exact ⟨rfl, HBOX.out _ _⟩
 ·rw [if_neg h9] at ho
  subst ho
  have t1 : (k == 9) = false := by simpa using h9
  have t2 : (k != 9) = true := by simpa using h9
  have H9 := Lib.hid h9
  clear h9 hop
  rcases hways with h | h | ⟨a, b, h1, h0⟩
  ·go_enter Tryz.func56, Tryz.ntmps56
   go_wp2_with (fail)
   go_quiet ((go_at_call 76; exact Calls.quiet_of_same ((HKC.out _).mono fun _ _ h => ⟨h.1, h.2.symm⟩)))
   go_wp2_with (fail)
   go_ret
   exact ⟨rfl, HBOX.out _ _⟩
  ·go_enter Tryz.func56, Tryz.ntmps56
   go_wp2_with (fail)
   go_quiet ((go_at_call 76; exact Calls.quiet_of_same ((HKC.out _).mono fun _ _ h => ⟨h.1, h.2.symm⟩)))
   go_wp2_with (fail)
   go_ret
   exact ⟨rfl, HBOX.out _ _⟩
  ·have u1 : (k != 1) = true := by simpa using h1
   have u0 : (nn != 0) = true := by simpa using h0
   clear h1 h0
   go_enter Tryz.func56, Tryz.ntmps56
   go_wp2_with (fail)
   go_quiet ((go_at_call 76; exact Calls.quiet_of_same ((HKC.out _).mono fun _ _ h => ⟨h.1, h.2.symm⟩)))
   go_wp2_with (fail)
   go_ret
   exact ⟨rfl, HBOX.out _ _⟩
end Term
end Go.Proofs.YtkfkpjngiffamaaGreatDoor
