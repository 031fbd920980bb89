/- The walks of layer 2's example, and of the statements on one text and on one number. -/
import Derived.Test.YtchdplhiamognaaDoorWordsAllW
import Derived.Test.YtchdplhiamognaaDoorWordsRef
import Derived.Test.YtchdplhiamognaaDoorWordsRefNum
namespace Go.Proofs.YtchdplhiamognaaDoor
open Go.RowKit
namespace Words
open Chars (ret_i64 ret_bool cls el isin run spanI BytesAt Bytes bytes_new)

/-- The variables that layer 2 reads. -/
def Laid2 (w : World) : Prop := KwLaid w ∧ NumLaid w
theorem Laid2.below {w W : World} (h : Laid2 w) (hb : Below w.heap.size w W) : Laid2 W := ⟨h.1.below hb, h.2.below hb⟩

def tIn : ByteArray := ⟨#[105, 110]⟩
def tIn1 : ByteArray := ⟨#[105, 110, 49]⟩
def tGreat : ByteArray := ⟨#[73, 110]⟩
theorem in_kw : kwN tIn.data.toList = 3 := by decide +kernel
theorem in_name : nameB tIn = false := by decide +kernel
theorem in1_name : nameB tIn1 = true := by decide +kernel
theorem great_exn : exnB tGreat = true := by decide +kernel

theorem awake_walk (w : World) (hl : KwLaid w) : Calls Tryd.prog 8 #[] w fun e w' => e = .returned (.bool true) ∧ Below w.heap.size w w' := by
  have HL := Lib.hid hl; clear hl
  go_enter Tryd.func8, Tryd.ntmps8
  go_wp2_with (fail)
  refine (keyword_walk tIn _ HL.out).mono ?_
  rw [in_kw]
  rintro e w1 ⟨rfl, rfl⟩
  go_wp2_with (fail)
  refine (name_one tIn1 _ _ (by decide +kernel) HL.out).mono ?_
  rw [in1_name]
  rintro e w1 ⟨rfl, hb⟩
  have HB := Lib.hid hb; clear hb
  go_wp2_with (fail)
  refine (name_one tIn _ _ (by decide +kernel) (HL.out.below HB.out)).mono ?_
  rw [in_name]
  rintro e w2 ⟨rfl, hb⟩
  have HB2 := Lib.hid (HB.out.trans (hb.mono HB.out.size)); clear hb
  go_wp2_with (fail)
  refine (exn_one tGreat _ _ (by decide +kernel)).mono ?_
  rw [great_exn]
  rintro e w3 ⟨rfl, hb⟩
  have HB3 := Lib.hid (HB2.out.trans (hb.mono HB2.out.size)); clear hb
  go_wp2
  go_ret
  exact ⟨rfl, HB3.out⟩

set_option maxHeartbeats 800000 in
theorem wordsIs_walk (s : ByteArray) (w : World) (hs : s.size ≤ maxLen) (hl : Laid2 w) :
    Calls Tryd.prog 3 #[.string s] w fun e w' => e = .returned (.bool true) ∧ Below w.heap.size w w' := by
  have HL := Lib.hid hl; have HS := Lib.hid hs
  clear hl
  unfold maxLen at hs
  by_cases hlen : 100 < s.size
  · go_enter Tryd.func3, Tryd.ntmps3
    go_wp2_with (fail)
    refine (awake_walk _ HL.out.1).mono ?_
    rintro e w1 ⟨rfl, hb⟩
    have HB := Lib.hid hb; clear hb
    go_wp2
    go_ret
    exact ⟨rfl, HB.out⟩
  go_enter Tryd.func3, Tryd.ntmps3
  go_wp2_with (fail)
  refine (number_walk s _ (by omega) HL.out.2).mono ?_
  rintro e w1 ⟨he, hb⟩
  unfold NumEnd at he
  subst he
  have HB := Lib.hid hb; clear hb
  go_wp2_with (fail)
  refine (refNumber_walk s _ HS.out).mono ?_
  rintro e w2 ⟨he, hb⟩
  unfold NumEnd at he
  subst he
  have HB2 := Lib.hid (HB.out.trans (hb.mono HB.out.size)); clear hb
  go_wp2_with (fail)
  refine (keyword_walk s _ (HL.out.1.below HB2.out)).mono ?_
  rintro e w3 ⟨rfl, rfl⟩
  go_wp2_with (fail)
  refine (refKeyword_walk s _).mono ?_
  rintro e w3 ⟨rfl, hb⟩
  have HB3 := Lib.hid (HB2.out.trans (hb.mono HB2.out.size)); clear hb
  go_wp2_with (fail)
  refine (name_one s _ _ HS.out (HL.out.1.below HB3.out)).mono ?_
  rintro e w4 ⟨rfl, hb⟩
  have HB4 := Lib.hid (HB3.out.trans (hb.mono HB3.out.size)); clear hb
  go_wp2_with (fail)
  refine (refName_walk s _ HS.out).mono ?_
  rintro e w5 ⟨rfl, hb⟩
  have HB5 := Lib.hid (HB4.out.trans (hb.mono HB4.out.size)); clear hb
  go_wp2_with (fail)
  refine (exn_one s _ _ HS.out).mono ?_
  rintro e w6 ⟨rfl, hb⟩
  have HB6 := Lib.hid (HB5.out.trans (hb.mono HB5.out.size)); clear hb
  go_wp2_with (fail)
  refine (refExn_walk s _ HS.out).mono ?_
  rintro e w7 ⟨rfl, hb⟩
  have HB7 := Lib.hid (HB6.out.trans (hb.mono HB6.out.size)); clear hb
  go_wp2_with (fail)
  refine (awake_walk _ (HL.out.1.below HB7.out)).mono ?_
  rintro e w8 ⟨rfl, hb⟩
  have HB8 := Lib.hid (HB7.out.trans (hb.mono HB7.out.size)); clear hb
  go_wp2
  go_ret
  exact ⟨rfl, HB8.out⟩

/-! ### Nothing is two of these -/
theorem kw_first (l : List UInt8) (h : 0 < kwN l) : cls (el (ints l) 0) = 3 := by
  have : ∀ t ∈ kwTexts, cls (el (ints t) 0) = 3 := by decide +kernel
  refine this l ?_
  rcases Classical.em (l ∈ kwTexts) with hm | hm
  · exact hm
  · exfalso
    have := kwAt_miss l kwTexts 0 (fun j hj e => hm (by rw [← e, List.getD_eq_getElem?_getD, List.getElem?_eq_getElem hj]; exact List.getElem_mem hj))
    unfold kwN at h
    omega
theorem word_first {f : Int} {xs : List Int} (h : wordB f xs = true) : cls (el xs 0) = f := by
  unfold wordB at h
  exact (of_decide_eq_true h).2.2.1
theorem num_first {l : List UInt8} (h : numB l = true) : cls (el (ints l) 0) = 2 := by
  obtain ⟨h0, h1, _⟩ := numB_true h
  cases l with
  | nil => exact absurd rfl h0
  | cons c r =>
    have := digB_all h1 c (by simp)
    have e : el (ints (c :: r)) 0 = (c.toNat : Int) := rfl
    rw [e, digit_iff]
    omega
theorem name_parts {s : ByteArray} (h : nameB s = true) : wordB 3 (ints s.data.toList) = true ∧ kwN s.data.toList = 0 := by
  unfold nameB at h
  rw [Bool.and_eq_true, decide_eq_true_iff] at h
  exact h
theorem apart (s : ByteArray) :
    ((0 : Int) < (kwN s.data.toList : Nat) ∧ nameB s = false ∧ exnB s = false ∧ numB s.data.toList = false) ∨
    (¬ (0 : Int) < (kwN s.data.toList : Nat) ∧ nameB s = true ∧ exnB s = false ∧ numB s.data.toList = false) ∨
    (¬ (0 : Int) < (kwN s.data.toList : Nat) ∧ nameB s = false ∧ exnB s = true ∧ numB s.data.toList = false) ∨
    (¬ (0 : Int) < (kwN s.data.toList : Nat) ∧ nameB s = false ∧ exnB s = false ∧ numB s.data.toList = true) ∨
    (¬ (0 : Int) < (kwN s.data.toList : Nat) ∧ nameB s = false ∧ exnB s = false ∧ numB s.data.toList = false) := by
  have k := kw_first s.data.toList
  cases hn : nameB s <;> cases he : exnB s <;> cases hd : numB s.data.toList <;> by_cases hk : 0 < kwN s.data.toList
  all_goals first
    | exact .inl ⟨by omega, rfl, rfl, rfl⟩
    | exact .inr (.inl ⟨by omega, rfl, rfl, rfl⟩)
    | exact .inr (.inr (.inl ⟨by omega, rfl, rfl, rfl⟩))
    | exact .inr (.inr (.inr (.inl ⟨by omega, rfl, rfl, rfl⟩)))
    | exact .inr (.inr (.inr (.inr ⟨by omega, rfl, rfl, rfl⟩)))
    | (exfalso
       have k2 := @name_parts s
       have k3 := @word_first 4 (ints s.data.toList)
       have k4 := @num_first s.data.toList
       have k5 := @word_first 3 (ints s.data.toList)
       unfold exnB at he
       first
         | (have := (k2 hn).2; omega)
         | (have a := k3 he; have b := k4 hd; omega)
         | (have a := k5 (k2 hn).1; have b := k4 hd; omega)
         | (have a := k5 (k2 hn).1; have b := k3 he; omega)
         | (have a := k3 he; have b := k hk; omega)
         | (have a := k4 hd; have b := k hk; omega))

set_option maxHeartbeats 800000 in
theorem wordsApart_walk (s : ByteArray) (w : World) (hs : s.size ≤ maxLen) (hl : Laid2 w) :
    Calls Tryd.prog 6 #[.string s] w fun e w' => e = .returned (.bool true) ∧ Below w.heap.size w w' := by
  have HL := Lib.hid hl; have HS := Lib.hid hs
  clear hl
  unfold maxLen at hs
  by_cases hlen : 100 < s.size
  · go_enter Tryd.func6, Tryd.ntmps6
    go_wp2_with (fail)
    refine (awake_walk _ HL.out.1).mono ?_
    rintro e w1 ⟨rfl, hb⟩
    have HB := Lib.hid hb; clear hb
    go_wp2
    go_ret
    exact ⟨rfl, HB.out⟩
  rcases apart s with ⟨hk, hn, he, hd⟩ | ⟨hk, hn, he, hd⟩ | ⟨hk, hn, he, hd⟩ | ⟨hk, hn, he, hd⟩ | ⟨hk, hn, he, hd⟩
  all_goals
    have HN := Lib.hid hn; have HE := Lib.hid he; have HD := Lib.hid hd
    clear hn he hd
    go_enter Tryd.func6, Tryd.ntmps6
    go_wp2_with (fail)
    refine (number_walk s _ (by omega) HL.out.2).mono ?_
    rintro e w1 ⟨he, hb⟩
    unfold NumEnd at he
    rw [HD.out] at he
    subst he
    have HB := Lib.hid hb; clear hb
    go_wp2_with (fail)
    refine (keyword_walk s _ (HL.out.1.below HB.out)).mono ?_
    rintro e w3 ⟨rfl, rfl⟩
    go_wp2_with (fail)
    refine (name_one s _ _ HS.out (HL.out.1.below HB.out)).mono ?_
    rw [HN.out]
    rintro e w4 ⟨rfl, hb⟩
    have HB4 := Lib.hid (HB.out.trans (hb.mono HB.out.size)); clear hb
    go_wp2_with (fail)
    refine (exn_one s _ _ HS.out).mono ?_
    rw [HE.out]
    rintro e w6 ⟨rfl, hb⟩
    have HB6 := Lib.hid (HB4.out.trans (hb.mono HB4.out.size)); clear hb
    go_wp2_with (fail)
    refine (awake_walk _ (HL.out.1.below HB6.out)).mono ?_
    rintro e w8 ⟨rfl, hb⟩
    have HB8 := Lib.hid (HB6.out.trans (hb.mono HB6.out.size)); clear hb
    go_wp2
    go_ret
    exact ⟨rfl, HB8.out⟩

/-! ### Numbers there and back -/
theorem itoa_size (n : Int) (h0 : -9223372036854775808 ≤ n) (h1 : n ≤ 9223372036854775807) : (⟨(Lib.itoa n).toArray⟩ : ByteArray).size ≤ 1000 := by
  have := Lib.itoa_length_le n h0 h1
  have e : (⟨(Lib.itoa n).toArray⟩ : ByteArray).size = (Lib.itoa n).length := by simp [ByteArray.size]
  omega
/-- A number's digits, as a name of their own. -/
def itoB (n : Int) : ByteArray := ⟨(Lib.itoa n).toArray⟩
theorem itoB_list (n : Int) : (itoB n).data.toList = Lib.itoa n := by unfold itoB; simp

set_option maxHeartbeats 800000 in
theorem wordsBack_walk (n : Int) (w : World) (h0 : -9223372036854775808 ≤ n) (h1 : n ≤ 9223372036854775807) (hl : Laid2 w) :
    Calls Tryd.prog 5 #[.int .i64 n] w fun e w' => e = .returned (.bool true) ∧ Below w.heap.size w w' := by
  have hd := fun W hW => digitsOf_walk n h0 h1 W hW
  have hrd := fun W => refDigits_walk n h0 h1 W
  rw [show (⟨(Lib.itoa n).toArray⟩ : ByteArray) = itoB n from rfl] at hd hrd
  have hsz : (itoB n).size ≤ 1000 := itoa_size n h0 h1
  have hni := num_itoa n
  rw [← itoB_list] at hni
  have HL := Lib.hid hl; have HD := Lib.hid hd; have HR := Lib.hid hrd; have HZ := Lib.hid hsz; have HN := Lib.hid hni
  clear hl hd hrd hsz hni
  have hq : ((itoB n).toList == (itoB n).toList) = true := by simp
  by_cases h2 : 0 ≤ n
  · by_cases h3 : n ≤ 2147483647
    · have hb : numB (itoB n).data.toList = true := by rw [HN.out.1]; exact decide_eq_true ⟨h2, h3⟩
      have hv : numV (itoB n).data.toList = n := by rw [HN.out.2, if_pos ⟨h2, h3⟩]
      have HV := Lib.hid hv; have HBB := Lib.hid hb
      clear hb hv
      go_enter Tryd.func5, Tryd.ntmps5
      go_wp2_with (fail)
      refine (HD.out _ HL.out.2).mono ?_
      rintro e w1 ⟨rfl, hb⟩
      have HB := Lib.hid hb; clear hb
      go_wp2_with (fail)
      refine (number_walk (itoB n) _ HZ.out (HL.out.2.below HB.out)).mono ?_
      rintro e w2 ⟨he, hb⟩
      unfold NumEnd at he
      rw [HV.out, HBB.out] at he
      subst he
      have HB2 := Lib.hid (HB.out.trans (hb.mono HB.out.size)); clear hb
      go_wp2_with (fail)
      refine (HR.out _).mono ?_
      rintro e w3 ⟨rfl, hb⟩
      have HB3 := Lib.hid (HB2.out.trans (hb.mono HB2.out.size)); clear hb
      go_wp2_with (fail)
      refine (awake_walk _ (HL.out.1.below HB3.out)).mono ?_
      rintro e w4 ⟨rfl, hb⟩
      have HB4 := Lib.hid (HB3.out.trans (hb.mono HB3.out.size)); clear hb
      go_wp2
      go_ret
      exact ⟨rfl, HB4.out⟩
    · have hb : numB (itoB n).data.toList = false := by rw [HN.out.1]; exact decide_eq_false (fun h => h3 h.2)
      have hv : numV (itoB n).data.toList = 0 := by rw [HN.out.2, if_neg (fun h => h3 h.2)]
      have HV := Lib.hid hv; have HBB := Lib.hid hb
      clear hb hv
      go_enter Tryd.func5, Tryd.ntmps5
      go_wp2_with (fail)
      refine (HD.out _ HL.out.2).mono ?_
      rintro e w1 ⟨rfl, hb⟩
      have HB := Lib.hid hb; clear hb
      go_wp2_with (fail)
      refine (number_walk (itoB n) _ HZ.out (HL.out.2.below HB.out)).mono ?_
      rintro e w2 ⟨he, hb⟩
      unfold NumEnd at he
      rw [HV.out, HBB.out] at he
      subst he
      have HB2 := Lib.hid (HB.out.trans (hb.mono HB.out.size)); clear hb
      go_wp2_with (fail)
      refine (HR.out _).mono ?_
      rintro e w3 ⟨rfl, hb⟩
      have HB3 := Lib.hid (HB2.out.trans (hb.mono HB2.out.size)); clear hb
      go_wp2_with (fail)
      refine (awake_walk _ (HL.out.1.below HB3.out)).mono ?_
      rintro e w4 ⟨rfl, hb⟩
      have HB4 := Lib.hid (HB3.out.trans (hb.mono HB3.out.size)); clear hb
      go_wp2
      go_ret
      exact ⟨rfl, HB4.out⟩
  · have hb : numB (itoB n).data.toList = false := by rw [HN.out.1]; exact decide_eq_false (fun h => h2 h.1)
    have hv : numV (itoB n).data.toList = 0 := by rw [HN.out.2, if_neg (fun h => h2 h.1)]
    have HV := Lib.hid hv; have HBB := Lib.hid hb
    clear hb hv
    go_enter Tryd.func5, Tryd.ntmps5
    go_wp2_with (fail)
    refine (HD.out _ HL.out.2).mono ?_
    rintro e w1 ⟨rfl, hb⟩
    have HB := Lib.hid hb; clear hb
    go_wp2_with (fail)
    refine (number_walk (itoB n) _ HZ.out (HL.out.2.below HB.out)).mono ?_
    rintro e w2 ⟨he, hb⟩
    unfold NumEnd at he
    rw [HV.out, HBB.out] at he
    subst he
    have HB2 := Lib.hid (HB.out.trans (hb.mono HB.out.size)); clear hb
    go_wp2_with (fail)
    refine (HR.out _).mono ?_
    rintro e w3 ⟨rfl, hb⟩
    have HB3 := Lib.hid (HB2.out.trans (hb.mono HB2.out.size)); clear hb
    go_wp2_with (fail)
    refine (awake_walk _ (HL.out.1.below HB3.out)).mono ?_
    rintro e w4 ⟨rfl, hb⟩
    have HB4 := Lib.hid (HB3.out.trans (hb.mono HB3.out.size)); clear hb
    go_wp2
    go_ret
    exact ⟨rfl, HB4.out⟩
end Words
end Go.Proofs.YtchdplhiamognaaDoor
