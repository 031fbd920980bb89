/- The walk of layer 2's statement on longer words. -/
import Derived.Test.YtchdplhiamognaaDoorWordsLaws
namespace Go.Proofs.YtchdplhiamognaaDoor
open Go.RowKit
namespace Words
open Chars (ret_i64 ret_bool cls el isin run spanI BytesAt Bytes bytes_new)

/-- A text with a byte behind it. -/
def catB (s : ByteArray) (c : Int) : ByteArray := s ++ oneB c
theorem catB_size (s : ByteArray) (c : Int) : (catB s c).size = s.size + 1 := by
  unfold catB
  rw [ByteArray.size_append]
  rfl
theorem catB_ints (s : ByteArray) (c : Int) (h0 : 0 ≤ c) (h1 : c ≤ 255) : ints (catB s c).data.toList = ints s.data.toList ++ [c] := by
  unfold catB oneB ints
  simp [ByteArray.data_append]
  omega
theorem cat_run (s : ByteArray) (c : Int) (hs : s.size ≤ 100) (W : World) : (Op.stringOp .add s (oneB c)).run Tryd.prog W = .ok (.string (catB s c)) W := by
  rw [run_string_add_sum]
  · rfl
  · have : (oneB c).size = 1 := rfl
    omega
theorem word_snoc {f : Int} {xs : List Int} (c : Int) (h : wordB f xs = true) : wordB f (xs ++ [c]) = (isin [3, 4, 2] (cls c) && decide (xs.length + 1 ≤ 16)) := by
  unfold wordB at h
  obtain ⟨h0, h1, h2, h3⟩ := of_decide_eq_true h
  have hf : el (xs ++ [c]) 0 = el xs 0 := by
    cases xs with
    | nil => exact absurd rfl h0
    | cons x xs => rfl
  unfold wordB
  rw [Bool.eq_iff_iff, decide_eq_true_iff, Bool.and_eq_true, decide_eq_true_iff, hf, List.length_append, List.length_singleton]
  constructor
  · rintro ⟨_, a, _, b⟩
    exact ⟨b c (by simp), a⟩
  · rintro ⟨a, b⟩
    refine ⟨by simp, b, h2, fun x hx => ?_⟩
    rw [List.mem_append, List.mem_singleton] at hx
    rcases hx with hx | rfl
    · exact h3 x hx
    · exact a
theorem name_longer {s : ByteArray} (c : Int) (h0 : 0 ≤ c) (h1 : c ≤ 255) (h : nameB s = true) :
    nameB (catB s c) = (isin [3, 4, 2] (cls c) && decide ((catB s c).size ≤ 16) && decide (kwN (catB s c).data.toList = 0)) := by
  have := word_snoc c (name_parts h).1
  rw [← catB_ints s c h0 h1, ints_size, ← catB_size s c] at this
  conv => lhs; unfold nameB
  rw [this]
theorem exn_longer {s : ByteArray} (c : Int) (h0 : 0 ≤ c) (h1 : c ≤ 255) (h : exnB s = true) : exnB (catB s c) = (isin [3, 4, 2] (cls c) && decide ((catB s c).size ≤ 16)) := by
  have := word_snoc c h
  rw [← catB_ints s c h0 h1, ints_size, ← catB_size s c] at this
  exact this
theorem name_not_exn {s : ByteArray} (h : nameB s = true) : exnB s = false := by
  rcases apart s with ⟨_, a, _⟩ | ⟨_, _, a, _⟩ | ⟨_, a, _⟩ | ⟨_, a, _⟩ | ⟨_, a, _⟩
  · rw [h] at a; cases a
  · exact a
  · rw [h] at a; cases a
  · rw [h] at a; cases a
  · rw [h] at a; cases a

theorem ld_iff (c : Int) : isin [3, 4, 2] (cls c) = decide ((48 ≤ c ∧ c ≤ 57) ∨ (97 ≤ c ∧ c ≤ 122) ∨ (65 ≤ c ∧ c ≤ 90)) := by
  unfold isin
  rw [decide_eq_decide]
  simp only [List.mem_cons, List.not_mem_nil, or_false]
  unfold cls
  by_cases a : c = 32 ∨ c = 9 ∨ c = 10
  · rw [if_pos a]; omega
  rw [if_neg a]
  by_cases b : 48 ≤ c ∧ c ≤ 57
  · rw [if_pos b]; omega
  rw [if_neg b]
  by_cases d : 97 ≤ c ∧ c ≤ 122
  · rw [if_pos d]; omega
  rw [if_neg d]
  by_cases e : 65 ≤ c ∧ c ≤ 90
  · rw [if_pos e]; omega
  rw [if_neg e]
  by_cases g : c ∈ [40, 41, 44, 33, 58, 61, 62, 43, 45, 42, 60, 59]
  · rw [if_pos g]; omega
  · rw [if_neg g]; omega

set_option maxHeartbeats 2000000 in
theorem longer_no (s : ByteArray) (c : Int) (w : World) (hs : s.size ≤ 100) (h0 : 0 ≤ c) (h1 : c ≤ 255) (hl : KwLaid w) (hc : c < 48 ∨ (58 ≤ c ∧ c < 65) ∨ (91 ≤ c ∧ c < 97) ∨ 123 ≤ c) :
    Calls Tryd.prog 7 #[.string s, .int .u8 c] w fun e w' => e = .returned (.bool true) ∧ Below w.heap.size w w' := by
  have hbk := fun W => byte_back W c
  have hcat := fun W => cat_run s c hs W
  have hsm : s.size ≤ maxLen := by unfold maxLen; omega
  have hcs : (catB s c).size ≤ maxLen := by rw [catB_size]; unfold maxLen; omega
  have hld : isin [3, 4, 2] (cls c) = false := by rw [ld_iff]; exact decide_eq_false (by omega)
  have hnl := @name_longer s c h0 h1
  have hel := @exn_longer s c h0 h1
  rw [hld] at hnl hel
  have HL := Lib.hid hl; have HS := Lib.hid hsm; have HC := Lib.hid hcs; have HNL := Lib.hid hnl; have HEL := Lib.hid hel
  clear hl hsm hcs hld hnl hel
  cases hn : nameB s
  · cases he : exnB s
    · have HN := Lib.hid hn; have HE := Lib.hid he
      clear hn he
      rcases hc with r | ⟨r, r2⟩ | ⟨r, r2⟩ | r
      all_goals
        go_enter Tryd.func7, Tryd.ntmps7
        go_wp2_with (fail)
        refine (name_at s _ _ (w.alloc _) (by simp) HS.out (HL.out.below ((Below.refl _ _).alloc (Nat.le_refl _) _))).mono ?_
        rw [HN.out]
        rintro e w1 ⟨rfl, hb⟩
        have hb2 : Below w.heap.size w w1 := ((Below.refl _ _).alloc (Nat.le_refl _) _).trans (hb.mono (by simp))
        have HB := Lib.hid hb2; clear hb hb2
        go_wp2_with (fail)
        refine (exn_one s _ _ HS.out).mono ?_
        rw [HE.out]
        rintro e w2 ⟨rfl, hb⟩
        have HB2 := Lib.hid (HB.out.trans (hb.mono HB.out.size)); clear hb
        go_wp2_with (fail)
        refine (awake_walk _ (HL.out.below HB2.out)).mono ?_
        rintro e w8 ⟨rfl, hb⟩
        have HB8 := Lib.hid (HB2.out.trans (hb.mono HB2.out.size)); clear hb
        go_wp2
        go_ret
        exact ⟨rfl, HB8.out⟩
    · have het := HEL.out he
      have HN := Lib.hid hn; have HE := Lib.hid he; have HET := Lib.hid het
      clear hn he het
      rcases hc with r | ⟨r, r2⟩ | ⟨r, r2⟩ | r
      all_goals
        go_enter Tryd.func7, Tryd.ntmps7
        go_wp2_with (fail)
        refine (name_at s _ _ (w.alloc _) (by simp) HS.out (HL.out.below ((Below.refl _ _).alloc (Nat.le_refl _) _))).mono ?_
        rw [HN.out]
        rintro e w1 ⟨rfl, hb⟩
        have hb2 : Below w.heap.size w w1 := ((Below.refl _ _).alloc (Nat.le_refl _) _).trans (hb.mono (by simp))
        have HB := Lib.hid hb2; clear hb hb2
        go_wp2_with (fail)
        refine (exn_one s _ _ HS.out).mono ?_
        rw [HE.out]
        rintro e w2 ⟨rfl, hb⟩
        have HB2 := Lib.hid (HB.out.trans (hb.mono HB.out.size)); clear hb
        go_wp2_with (fail)
        refine (exn_one (catB s c) _ _ HC.out).mono ?_
        rw [HET.out]
        rintro e w3 ⟨rfl, hb⟩
        have HB3 := Lib.hid (HB2.out.trans (hb.mono HB2.out.size)); clear hb
        go_wp2_with (fail)
        refine (awake_walk _ (HL.out.below HB3.out)).mono ?_
        rintro e w8 ⟨rfl, hb⟩
        have HB8 := Lib.hid (HB3.out.trans (hb.mono HB3.out.size)); clear hb
        go_wp2
        go_ret
        exact ⟨rfl, HB8.out⟩
  · have he := name_not_exn hn
    have hnt := HNL.out hn
    have HN := Lib.hid hn; have HE := Lib.hid he; have HNT := Lib.hid hnt
    clear hn he hnt
    rcases hc with r | ⟨r, r2⟩ | ⟨r, r2⟩ | r
    all_goals
      go_enter Tryd.func7, Tryd.ntmps7
      go_wp2_with (fail)
      refine (name_at s _ _ (w.alloc _) (by simp) HS.out (HL.out.below ((Below.refl _ _).alloc (Nat.le_refl _) _))).mono ?_
      rw [HN.out]
      rintro e w1 ⟨rfl, hb⟩
      have hb2 : Below w.heap.size w w1 := ((Below.refl _ _).alloc (Nat.le_refl _) _).trans (hb.mono (by simp))
      have HB := Lib.hid hb2; clear hb hb2
      go_wp2_with (fail)
      refine (name_one (catB s c) _ _ HC.out (HL.out.below HB.out)).mono ?_
      rw [HNT.out]
      rintro e w2 ⟨rfl, hb⟩
      have HB2 := Lib.hid (HB.out.trans (hb.mono HB.out.size)); clear hb
      go_wp2_with (fail)
      refine (exn_one s _ _ HS.out).mono ?_
      rw [HE.out]
      rintro e w3 ⟨rfl, hb⟩
      have HB3 := Lib.hid (HB2.out.trans (hb.mono HB2.out.size)); clear hb
      go_wp2_with (fail)
      refine (awake_walk _ (HL.out.below HB3.out)).mono ?_
      rintro e w8 ⟨rfl, hb⟩
      have HB8 := Lib.hid (HB3.out.trans (hb.mono HB3.out.size)); clear hb
      go_wp2
      go_ret
      exact ⟨rfl, HB8.out⟩
set_option maxHeartbeats 2000000 in
theorem longer_long (s : ByteArray) (c : Int) (w : World) (hs : s.size ≤ 100) (h0 : 0 ≤ c) (h1 : c ≤ 255) (hl : KwLaid w) (hc : (48 ≤ c ∧ c ≤ 57) ∨ (97 ≤ c ∧ c ≤ 122) ∨ (65 ≤ c ∧ c ≤ 90)) (hlen : ¬ (catB s c).size ≤ 16) :
    Calls Tryd.prog 7 #[.string s, .int .u8 c] w fun e w' => e = .returned (.bool true) ∧ Below w.heap.size w w' := by
  have hbk := fun W => byte_back W c
  have hcat := fun W => cat_run s c hs W
  have hsm : s.size ≤ maxLen := by unfold maxLen; omega
  have hcs : (catB s c).size ≤ maxLen := by rw [catB_size]; unfold maxLen; omega
  have hld : isin [3, 4, 2] (cls c) = true := by rw [ld_iff]; exact decide_eq_true hc
  have hnl := @name_longer s c h0 h1
  have hel := @exn_longer s c h0 h1
  rw [hld, decide_eq_false hlen] at hnl hel
  have HL := Lib.hid hl; have HS := Lib.hid hsm; have HC := Lib.hid hcs; have HNL := Lib.hid hnl; have HEL := Lib.hid hel
  clear hl hsm hcs hld hnl hel
  have hl1 : decide (((catB s c).size : Int) ≤ 16) = false := decide_eq_false (by omega)
  clear hlen
  cases hn : nameB s
  · cases he : exnB s
    · have HN := Lib.hid hn; have HE := Lib.hid he
      clear hn he
      rcases hc with ⟨r, r2⟩ | ⟨r, r2⟩ | ⟨r, r2⟩
      all_goals
        go_enter Tryd.func7, Tryd.ntmps7
        go_wp2_with (fail)
        refine (name_at s _ _ (w.alloc _) (by simp) HS.out (HL.out.below ((Below.refl _ _).alloc (Nat.le_refl _) _))).mono ?_
        rw [HN.out]
        rintro e w1 ⟨rfl, hb⟩
        have hb2 : Below w.heap.size w w1 := ((Below.refl _ _).alloc (Nat.le_refl _) _).trans (hb.mono (by simp))
        have HB := Lib.hid hb2; clear hb hb2
        go_wp2_with (fail)
        refine (exn_one s _ _ HS.out).mono ?_
        rw [HE.out]
        rintro e w2 ⟨rfl, hb⟩
        have HB2 := Lib.hid (HB.out.trans (hb.mono HB.out.size)); clear hb
        go_wp2_with (fail)
        refine (awake_walk _ (HL.out.below HB2.out)).mono ?_
        rintro e w8 ⟨rfl, hb⟩
        have HB8 := Lib.hid (HB2.out.trans (hb.mono HB2.out.size)); clear hb
        go_wp2
        go_ret
        exact ⟨rfl, HB8.out⟩
    · have het := HEL.out he
      have HN := Lib.hid hn; have HE := Lib.hid he; have HET := Lib.hid het
      clear hn he het
      rcases hc with ⟨r, r2⟩ | ⟨r, r2⟩ | ⟨r, r2⟩
      all_goals
        go_enter Tryd.func7, Tryd.ntmps7
        go_wp2_with (fail)
        refine (name_at s _ _ (w.alloc _) (by simp) HS.out (HL.out.below ((Below.refl _ _).alloc (Nat.le_refl _) _))).mono ?_
        rw [HN.out]
        rintro e w1 ⟨rfl, hb⟩
        have hb2 : Below w.heap.size w w1 := ((Below.refl _ _).alloc (Nat.le_refl _) _).trans (hb.mono (by simp))
        have HB := Lib.hid hb2; clear hb hb2
        go_wp2_with (fail)
        refine (exn_one s _ _ HS.out).mono ?_
        rw [HE.out]
        rintro e w2 ⟨rfl, hb⟩
        have HB2 := Lib.hid (HB.out.trans (hb.mono HB.out.size)); clear hb
        go_wp2_with (fail)
        refine (exn_one (catB s c) _ _ HC.out).mono ?_
        rw [HET.out]
        rintro e w3 ⟨rfl, hb⟩
        have HB3 := Lib.hid (HB2.out.trans (hb.mono HB2.out.size)); clear hb
        go_wp2_with (fail)
        refine (awake_walk _ (HL.out.below HB3.out)).mono ?_
        rintro e w8 ⟨rfl, hb⟩
        have HB8 := Lib.hid (HB3.out.trans (hb.mono HB3.out.size)); clear hb
        go_wp2
        go_ret
        exact ⟨rfl, HB8.out⟩
  · have he := name_not_exn hn
    have hnt := HNL.out hn
    have HN := Lib.hid hn; have HE := Lib.hid he; have HNT := Lib.hid hnt
    clear hn he hnt
    rcases hc with ⟨r, r2⟩ | ⟨r, r2⟩ | ⟨r, r2⟩
    all_goals
      go_enter Tryd.func7, Tryd.ntmps7
      go_wp2_with (fail)
      refine (name_at s _ _ (w.alloc _) (by simp) HS.out (HL.out.below ((Below.refl _ _).alloc (Nat.le_refl _) _))).mono ?_
      rw [HN.out]
      rintro e w1 ⟨rfl, hb⟩
      have hb2 : Below w.heap.size w w1 := ((Below.refl _ _).alloc (Nat.le_refl _) _).trans (hb.mono (by simp))
      have HB := Lib.hid hb2; clear hb hb2
      go_wp2_with (fail)
      refine (name_one (catB s c) _ _ HC.out (HL.out.below HB.out)).mono ?_
      rw [HNT.out]
      rintro e w2 ⟨rfl, hb⟩
      have HB2 := Lib.hid (HB.out.trans (hb.mono HB.out.size)); clear hb
      go_wp2_with (fail)
      refine (exn_one s _ _ HS.out).mono ?_
      rw [HE.out]
      rintro e w3 ⟨rfl, hb⟩
      have HB3 := Lib.hid (HB2.out.trans (hb.mono HB2.out.size)); clear hb
      go_wp2_with (fail)
      refine (awake_walk _ (HL.out.below HB3.out)).mono ?_
      rintro e w8 ⟨rfl, hb⟩
      have HB8 := Lib.hid (HB3.out.trans (hb.mono HB3.out.size)); clear hb
      go_wp2
      go_ret
      exact ⟨rfl, HB8.out⟩
set_option maxHeartbeats 2000000 in
theorem longer_short (s : ByteArray) (c : Int) (w : World) (hs : s.size ≤ 100) (h0 : 0 ≤ c) (h1 : c ≤ 255) (hl : KwLaid w) (hc : (48 ≤ c ∧ c ≤ 57) ∨ (97 ≤ c ∧ c ≤ 122) ∨ (65 ≤ c ∧ c ≤ 90)) (hlen : (catB s c).size ≤ 16) :
    Calls Tryd.prog 7 #[.string s, .int .u8 c] w fun e w' => e = .returned (.bool true) ∧ Below w.heap.size w w' := by
  have hbk := fun W => byte_back W c
  have hcat := fun W => cat_run s c hs W
  have hsm : s.size ≤ maxLen := by unfold maxLen; omega
  have hcs : (catB s c).size ≤ maxLen := by rw [catB_size]; unfold maxLen; omega
  have hld : isin [3, 4, 2] (cls c) = true := by rw [ld_iff]; exact decide_eq_true hc
  have hnl := @name_longer s c h0 h1
  have hel := @exn_longer s c h0 h1
  rw [hld, decide_eq_true hlen] at hnl hel
  have HL := Lib.hid hl; have HS := Lib.hid hsm; have HC := Lib.hid hcs; have HNL := Lib.hid hnl; have HEL := Lib.hid hel
  clear hl hsm hcs hld hnl hel
  have hl1 : decide (((catB s c).size : Int) ≤ 16) = true := decide_eq_true (by omega)
  clear hlen
  cases hn : nameB s
  · cases he : exnB s
    · have HN := Lib.hid hn; have HE := Lib.hid he
      clear hn he
      rcases hc with ⟨r, r2⟩ | ⟨r, r2⟩ | ⟨r, r2⟩
      all_goals
        go_enter Tryd.func7, Tryd.ntmps7
        go_wp2_with (fail)
        refine (name_at s _ _ (w.alloc _) (by simp) HS.out (HL.out.below ((Below.refl _ _).alloc (Nat.le_refl _) _))).mono ?_
        rw [HN.out]
        rintro e w1 ⟨rfl, hb⟩
        have hb2 : Below w.heap.size w w1 := ((Below.refl _ _).alloc (Nat.le_refl _) _).trans (hb.mono (by simp))
        have HB := Lib.hid hb2; clear hb hb2
        go_wp2_with (fail)
        refine (exn_one s _ _ HS.out).mono ?_
        rw [HE.out]
        rintro e w2 ⟨rfl, hb⟩
        have HB2 := Lib.hid (HB.out.trans (hb.mono HB.out.size)); clear hb
        go_wp2_with (fail)
        refine (awake_walk _ (HL.out.below HB2.out)).mono ?_
        rintro e w8 ⟨rfl, hb⟩
        have HB8 := Lib.hid (HB2.out.trans (hb.mono HB2.out.size)); clear hb
        go_wp2
        go_ret
        exact ⟨rfl, HB8.out⟩
    · have het := HEL.out he
      have HN := Lib.hid hn; have HE := Lib.hid he; have HET := Lib.hid het
      clear hn he het
      rcases hc with ⟨r, r2⟩ | ⟨r, r2⟩ | ⟨r, r2⟩
      all_goals
        go_enter Tryd.func7, Tryd.ntmps7
        go_wp2_with (fail)
        refine (name_at s _ _ (w.alloc _) (by simp) HS.out (HL.out.below ((Below.refl _ _).alloc (Nat.le_refl _) _))).mono ?_
        rw [HN.out]
        rintro e w1 ⟨rfl, hb⟩
        have hb2 : Below w.heap.size w w1 := ((Below.refl _ _).alloc (Nat.le_refl _) _).trans (hb.mono (by simp))
        have HB := Lib.hid hb2; clear hb hb2
        go_wp2_with (fail)
        refine (exn_one s _ _ HS.out).mono ?_
        rw [HE.out]
        rintro e w2 ⟨rfl, hb⟩
        have HB2 := Lib.hid (HB.out.trans (hb.mono HB.out.size)); clear hb
        go_wp2_with (fail)
        refine (exn_one (catB s c) _ _ HC.out).mono ?_
        rw [HET.out]
        rintro e w3 ⟨rfl, hb⟩
        have HB3 := Lib.hid (HB2.out.trans (hb.mono HB2.out.size)); clear hb
        go_wp2_with (fail)
        refine (awake_walk _ (HL.out.below HB3.out)).mono ?_
        rintro e w8 ⟨rfl, hb⟩
        have HB8 := Lib.hid (HB3.out.trans (hb.mono HB3.out.size)); clear hb
        go_wp2
        go_ret
        exact ⟨rfl, HB8.out⟩
  · have he := name_not_exn hn
    have hnt : nameB (catB s c) = ((kwN (catB s c).data.toList : Int) == 0) := by
      rw [HNL.out hn, Bool.true_and, Bool.true_and, Bool.eq_iff_iff]
      simp
    have HN := Lib.hid hn; have HE := Lib.hid he; have HNT := Lib.hid hnt
    clear hn he hnt
    rcases hc with ⟨r, r2⟩ | ⟨r, r2⟩ | ⟨r, r2⟩
    all_goals
      go_enter Tryd.func7, Tryd.ntmps7
      go_wp2_with (fail)
      refine (name_at s _ _ (w.alloc _) (by simp) HS.out (HL.out.below ((Below.refl _ _).alloc (Nat.le_refl _) _))).mono ?_
      rw [HN.out]
      rintro e w1 ⟨rfl, hb⟩
      have hb2 : Below w.heap.size w w1 := ((Below.refl _ _).alloc (Nat.le_refl _) _).trans (hb.mono (by simp))
      have HB := Lib.hid hb2; clear hb hb2
      go_wp2_with (fail)
      refine (name_one (catB s c) _ _ HC.out (HL.out.below HB.out)).mono ?_
      rw [HNT.out]
      rintro e w2 ⟨rfl, hb⟩
      have HB2 := Lib.hid (HB.out.trans (hb.mono HB.out.size)); clear hb
      go_wp2_with (fail)
      refine (keyword_walk (catB s c) _ (HL.out.below HB2.out)).mono ?_
      rintro e w2 ⟨rfl, rfl⟩
      go_wp2_with (fail)
      refine (exn_one s _ _ HS.out).mono ?_
      rw [HE.out]
      rintro e w3 ⟨rfl, hb⟩
      have HB3 := Lib.hid (HB2.out.trans (hb.mono HB2.out.size)); clear hb
      go_wp2_with (fail)
      refine (awake_walk _ (HL.out.below HB3.out)).mono ?_
      rintro e w8 ⟨rfl, hb⟩
      have HB8 := Lib.hid (HB3.out.trans (hb.mono HB3.out.size)); clear hb
      go_wp2
      go_ret
      exact ⟨rfl, HB8.out⟩
theorem wordsLonger_walk (s : ByteArray) (c : Int) (w : World) (hs : s.size ≤ maxLen) (h0 : 0 ≤ c) (h1 : c ≤ 255) (hl : KwLaid w) :
    Calls Tryd.prog 7 #[.string s, .int .u8 c] w fun e w' => e = .returned (.bool true) ∧ Below w.heap.size w w' := by
  by_cases hlen : 100 < s.size
  · have HL := Lib.hid hl; clear hl
    unfold maxLen at hs
    go_enter Tryd.func7, Tryd.ntmps7
    go_wp2_with (fail)
    refine (awake_walk _ HL.out).mono ?_
    rintro e w1 ⟨rfl, hb⟩
    have HB := Lib.hid hb; clear hb
    go_wp2
    go_ret
    exact ⟨rfl, HB.out⟩
  by_cases hc : c < 48 ∨ (58 ≤ c ∧ c < 65) ∨ (91 ≤ c ∧ c < 97) ∨ 123 ≤ c
  · exact longer_no s c w (by omega) h0 h1 hl hc
  · by_cases h16 : (catB s c).size ≤ 16
    · exact longer_short s c w (by omega) h0 h1 hl (by omega) h16
    · exact longer_long s c w (by omega) h0 h1 hl (by omega) h16
end Words
end Go.Proofs.YtchdplhiamognaaDoor
