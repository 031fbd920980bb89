/- The walks of layer 1's statements on places, and on cuts. -/
import Derived.Test.YtoodlanmgboegaaCharsLaws
set_option linter.unusedVariables false
namespace Go.Proofs.Ytoodlanmgboegaa
open Go.RowKit
namespace Chars

theorem rises (xs : List Int) (j : Nat) : ∀ m, j + 1 + m ≤ xs.length → lineN (xs.take j) < lineN (xs.take (j + 1 + m)) ∨ (lineN (xs.take j) = lineN (xs.take (j + 1 + m)) ∧ colN (xs.take j) < colN (xs.take (j + 1 + m)))
  | 0, h => by
    rw [Nat.add_zero, line_snoc xs j (by omega), col_snoc xs j (by omega)]
    by_cases e : el xs j = 10
    · left; rw [if_pos e]; omega
    · right; rw [if_neg e, if_neg e]; omega
  | m + 1, h => by
    have ih := rises xs j m (by omega)
    rw [show j + 1 + (m + 1) = (j + 1 + m) + 1 from by omega, line_snoc xs (j + 1 + m) (by omega), col_snoc xs (j + 1 + m) (by omega)]
    by_cases e : el xs (j + 1 + m) = 10
    · left; rw [if_pos e]; omega
    · rw [if_neg e, if_neg e]; omega

theorem cl_of (xs : List Int) (k : Nat) (h : k ≤ xs.length) : cl xs (k : Int) = k := by unfold cl; omega
theorem lineI_of (xs : List Int) (k : Nat) (h : k ≤ xs.length) : lineI xs (k : Int) = (lineN (xs.take k) : Nat) := by unfold lineI; rw [cl_of xs k h]
theorem colI_of (xs : List Int) (k : Nat) (h : k ≤ xs.length) : colI xs (k : Int) = (colN (xs.take k) : Nat) := by unfold colI; rw [cl_of xs k h]

set_option maxHeartbeats 400000 in
theorem charsRises_walk (a0 : Option Addr) (len0 cap0 : Nat) (z0 : List Int) (a1 : Int) (a2 : Int) (w : World) (w0 : IsRow .u8 w a0 len0 cap0 z0) :
    Calls Try.prog 5 #[.slice a0 len0 cap0, .int .i64 a1, .int .i64 a2] w fun e w' => e = .returned (.bool true) ∧ Below w.heap.size w w' := by
  obtain ⟨xs, hx, hl, hm, hb, hr⟩ := w0.opened
  have HX := Lib.hid hx
  have HB := Lib.hid hb
  have HR := Lib.hid hr
  have hm' := hm
  have HM := Lib.hid hm'
  unfold maxLen at hm
  clear hx hb hr hm' w0
  by_cases c1 : 500 < len0
  · go_enter Try.func5, Try.ntmps5
    go_wp2_with (fail)
    refine (awake_walk _).mono ?_
    rintro e w' ⟨rfl, hb⟩
    have HB3 := Lib.hid hb; clear hb
    go_wp2
    go_ret
    exact ⟨rfl, HB3.out⟩
  by_cases c2 : a1 < 0
  · go_enter Try.func5, Try.ntmps5
    go_wp2_with (fail)
    refine (awake_walk _).mono ?_
    rintro e w' ⟨rfl, hb⟩
    have HB3 := Lib.hid hb; clear hb
    go_wp2
    go_ret
    exact ⟨rfl, HB3.out⟩
  by_cases c3 : (len0 : Int) < a2
  · go_enter Try.func5, Try.ntmps5
    go_wp2_with (fail)
    refine (awake_walk _).mono ?_
    rintro e w' ⟨rfl, hb⟩
    have HB3 := Lib.hid hb; clear hb
    go_wp2
    go_ret
    exact ⟨rfl, HB3.out⟩
  by_cases c4 : a2 ≤ a1
  · go_enter Try.func5, Try.ntmps5
    go_wp2_with (fail)
    refine (awake_walk _).mono ?_
    rintro e w' ⟨rfl, hb⟩
    have HB3 := Lib.hid hb; clear hb
    go_wp2
    go_ret
    exact ⟨rfl, HB3.out⟩
  obtain ⟨x, rfl⟩ := Int.eq_ofNat_of_zero_le (by omega : 0 ≤ a1)
  obtain ⟨y, rfl⟩ := Int.eq_ofNat_of_zero_le (by omega : 0 ≤ a2)
  have hxl : x ≤ xs.length := by rw [HX.out]; omega
  have hyl : y ≤ xs.length := by rw [HX.out]; omega
  have hrise := rises xs x (y - x - 1) (by omega)
  rw [show x + 1 + (y - x - 1) = y from by omega] at hrise
  have k1 := line_le (xs.take x)
  have k2 := col_le (xs.take x)
  have e1 := lineI_of xs x hxl
  have e2 := lineI_of xs y hyl
  have e3 := colI_of xs x hxl
  have e4 := colI_of xs y hyl
  have hp1 := fun (W : World) (hW : Below w.heap.size w W) => place_walk a0 len0 cap0 xs x W HX.out hl HM.out (by omega) (HB.out.below hW) HR.out
  have hp2 := fun (W : World) (hW : Below w.heap.size w W) => place_walk a0 len0 cap0 xs y W HX.out hl HM.out (by omega) (HB.out.below hW) HR.out
  rw [e1, e3] at hp1
  rw [e2, e4] at hp2
  generalize lineN (xs.take x) = l1 at *
  generalize lineN (xs.take y) = l2 at *
  generalize colN (xs.take x) = o1 at *
  generalize colN (xs.take y) = o2 at *
  have HP1 := Lib.hid hp1
  have HP2 := Lib.hid hp2
  have k11 := k1.2
  have k21 := k2.2
  clear hp1 hp2 e1 e2 e3 e4 k1 k2
  have hA : ((1 : Int) ≤ l1) := by omega
  have hB : ((1 : Int) ≤ o1) := by omega
  rcases hrise with g | ⟨g1, g2⟩
  · go_enter Try.func5, Try.ntmps5
    go_wp2_with (fail)
    refine (HP1.out _ (Below.refl _ _)).mono ?_
    rintro e w1 ⟨rfl, hb1⟩
    have HW1 := Lib.hid hb1; clear hb1
    go_wp2_with (fail)
    refine (HP2.out _ HW1.out).mono ?_
    rintro e w2 ⟨rfl, hb2⟩
    have HW2 := Lib.hid (HW1.out.trans (hb2.mono HW1.out.size)); clear hb2
    go_wp2_with (fail)
    refine (awake_walk _).mono ?_
    rintro e w4 ⟨rfl, hb4⟩
    have HW4 := Lib.hid (HW2.out.trans (hb4.mono HW2.out.size)); clear hb4
    go_wp2
    go_ret
    exact ⟨rfl, HW4.out⟩
  · subst g1
    go_enter Try.func5, Try.ntmps5
    go_wp2_with (fail)
    refine (HP1.out _ (Below.refl _ _)).mono ?_
    rintro e w1 ⟨rfl, hb1⟩
    have HW1 := Lib.hid hb1; clear hb1
    go_wp2_with (fail)
    refine (HP2.out _ HW1.out).mono ?_
    rintro e w2 ⟨rfl, hb2⟩
    have HW2 := Lib.hid (HW1.out.trans (hb2.mono HW1.out.size)); clear hb2
    go_wp2_with (fail)
    refine (awake_walk _).mono ?_
    rintro e w4 ⟨rfl, hb4⟩
    have HW4 := Lib.hid (HW2.out.trans (hb4.mono HW2.out.size)); clear hb4
    go_wp2
    go_ret
    exact ⟨rfl, HW4.out⟩

set_option maxHeartbeats 600000 in
theorem charsLines_walk (a0 : Option Addr) (len0 cap0 : Nat) (z0 : List Int) (a1 : Int) (w : World) (w0 : IsRow .u8 w a0 len0 cap0 z0) :
    Calls Try.prog 7 #[.slice a0 len0 cap0, .int .i64 a1] w fun e w' => e = .returned (.bool true) ∧ Below w.heap.size w w' := by
  obtain ⟨xs, hx, hl, hm, hb, hr⟩ := w0.opened
  have HX := Lib.hid hx
  have HB := Lib.hid hb
  have HR := Lib.hid hr
  have hm' := hm
  have HM := Lib.hid hm'
  unfold maxLen at hm
  clear hx hb hr hm' w0
  by_cases c1 : 500 < len0
  · go_enter Try.func7, Try.ntmps7
    go_wp2_with (fail)
    refine (awake_walk _).mono ?_
    rintro e w' ⟨rfl, hb⟩
    have HB3 := Lib.hid hb; clear hb
    go_wp2
    go_ret
    exact ⟨rfl, HB3.out⟩
  have e1 := lineI_of xs len0 (by rw [HX.out]; omega)
  rw [List.take_of_length_le (by rw [HX.out]; omega)] at e1
  have b0 := (line_le xs)
  rw [HX.out] at b0
  have hp1 := fun (W : World) (hW : Below w.heap.size w W) => place_walk a0 len0 cap0 xs (len0 : Nat) W HX.out hl HM.out (by omega) (HB.out.below hW) HR.out
  rw [e1] at hp1
  have HP1 := Lib.hid hp1
  clear hp1 e1
  generalize hq : colI xs (len0 : Nat) = cq at *
  clear hq
  go_enter Try.func7, Try.ntmps7
  go_wp2
  go_loop [5, 6] (fun l i => ∃ k : Nat, k ≤ len0 ∧ i = .int .i64 k ∧ l = .int .i64 (lineN (xs.take k) : Nat)) (fun _ i => len0 - (intOf i).toNat)
  case atStart => exact ⟨0, by omega, rfl, rfl⟩
  case round =>
    obtain ⟨k, hk, rfl, rfl⟩ := hrel
    by_cases hlt : k < len0
    · obtain ⟨b, o, rfl, hc⟩ := HB.out.get k (by rw [HX.out]; exact hlt)
      have hck := hc k (by rw [HX.out]; exact hlt)
      have hls := line_snoc xs k (by rw [HX.out]; exact hlt)
      have b1 := line_le (xs.take k)
      have hlen : (xs.take k).length = k := by rw [List.length_take, HX.out]; omega
      rw [hlen] at b1
      obtain ⟨b11, b12⟩ := b1
      clear hc hlen b0
      generalize lineN (xs.take k) = ln at *
      have HLS := Lib.hid hls
      clear hls
      by_cases he : el xs k = 10
      · have he' : (el xs k == 10) = true := by simpa using he
        have HE := Lib.hid he; clear he
        go_wp2
        go_round
        case rel =>
          refine ⟨k + 1, by omega, by go_num, ?_⟩
          rw [HLS.out, if_pos HE.out]; go_num
        case measure => simp [intOf]; omega
      · have he' : (el xs k == 10) = false := by simpa using he
        have HE := Lib.hid he; clear he
        go_wp2
        go_round
        case rel =>
          refine ⟨k + 1, by omega, by go_num, ?_⟩
          rw [HLS.out, if_neg HE.out]; rfl
        case measure => simp [intOf]; omega
    · obtain rfl : k = len0 := by omega
      rw [List.take_of_length_le (by rw [HX.out]; omega)]
      have hneq : ((lineN xs : Int) != (lineN xs : Int)) = false := by simp
      have heq : ((lineN xs : Int) == (lineN xs : Int)) = true := by simp
      obtain ⟨b01, b02⟩ := b0
      go_wp2_with (fail)
      refine (HP1.out _ (Below.refl _ _)).mono ?_
      rintro e w1 ⟨rfl, hb1⟩
      have HW1 := Lib.hid hb1; clear hb1
      by_cases d1 : a1 < 0
      · go_wp2_with (fail)
        refine (awake_walk _).mono ?_
        rintro e w4 ⟨rfl, hb4⟩
        have HW4 := Lib.hid (HW1.out.trans (hb4.mono HW1.out.size)); clear hb4
        go_wp2
        go_ret
        exact ⟨rfl, HW4.out⟩
      by_cases d2 : (k : Int) ≤ a1
      · go_wp2_with (fail)
        refine (awake_walk _).mono ?_
        rintro e w4 ⟨rfl, hb4⟩
        have HW4 := Lib.hid (HW1.out.trans (hb4.mono HW1.out.size)); clear hb4
        go_wp2
        go_ret
        exact ⟨rfl, HW4.out⟩
      obtain ⟨s, rfl⟩ := Int.eq_ofNat_of_zero_le (by omega : 0 ≤ a1)
      have hs : s < k := by omega
      have f1 := lineI_of xs s (by rw [HX.out]; omega)
      have f2 := colI_of xs s (by rw [HX.out]; omega)
      have f3 := lineI_of xs (s + 1) (by rw [HX.out]; omega)
      have f4 := colI_of xs (s + 1) (by rw [HX.out]; omega)
      rw [line_snoc xs s (by rw [HX.out]; omega)] at f3
      rw [col_snoc xs s (by rw [HX.out]; omega)] at f4
      have hp2 := fun (W : World) (hW : Below w.heap.size w W) => place_walk a0 k cap0 xs (s : Nat) W HX.out hl HM.out (by omega) (HB.out.below hW) HR.out
      have hp3 := fun (W : World) (hW : Below w.heap.size w W) => place_walk a0 k cap0 xs (s + 1 : Nat) W HX.out hl HM.out (by omega) (HB.out.below hW) HR.out
      rw [f1, f2] at hp2
      rw [f3, f4] at hp3
      clear f1 f2 f3 f4
      have hcc := fun (W : World) (hW : Below w.heap.size w W) => (HB.out.below hW).get s (by rw [HX.out]; exact hs)
      have HCC := Lib.hid hcc
      have g1 := line_le (xs.take s)
      have g2 := col_le (xs.take s)
      have hlen : (xs.take s).length = s := by rw [List.length_take, HX.out]; omega
      rw [hlen] at g1 g2
      obtain ⟨g11, g12⟩ := g1
      obtain ⟨g21, g22⟩ := g2
      clear hcc d1 d2 hlen
      generalize lineN (xs.take s) = ln at *
      generalize colN (xs.take s) = cn at *
      have HP2 := Lib.hid hp2
      clear hp2
      by_cases he : el xs s = 10
      · rw [if_pos he, if_pos he] at hp3
        have HP3 := Lib.hid hp3
        clear hp3
        have he' : (el xs s == 10) = true := by simpa using he
        have HE := Lib.hid he; clear he
        go_wp2_with (fail)
        refine (HP2.out _ HW1.out).mono ?_
        rintro e w2 ⟨rfl, hb2⟩
        have HW2 := Lib.hid (HW1.out.trans (hb2.mono HW1.out.size)); clear hb2
        go_wp2_with (fail)
        refine (HP3.out _ HW2.out).mono ?_
        rintro e w3 ⟨rfl, hb3⟩
        have HW3 := Lib.hid (HW2.out.trans (hb3.mono HW2.out.size)); clear hb3
        obtain ⟨b, o, rfl, hc⟩ := HCC.out w3 HW3.out
        have hck := hc s (by rw [HX.out]; exact hs)
        clear hc
        go_wp2_with (fail)
        refine (awake_walk _).mono ?_
        rintro e w4 ⟨rfl, hb4⟩
        have HW4 := Lib.hid (HW3.out.trans (hb4.mono HW3.out.size)); clear hb4
        go_wp2
        go_ret
        exact ⟨rfl, HW4.out⟩
      · rw [if_neg he, if_neg he] at hp3
        have HP3 := Lib.hid hp3
        clear hp3
        have he' : (el xs s == 10) = false := by simpa using he
        have HE := Lib.hid he; clear he
        go_wp2_with (fail)
        refine (HP2.out _ HW1.out).mono ?_
        rintro e w2 ⟨rfl, hb2⟩
        have HW2 := Lib.hid (HW1.out.trans (hb2.mono HW1.out.size)); clear hb2
        go_wp2_with (fail)
        refine (HP3.out _ HW2.out).mono ?_
        rintro e w3 ⟨rfl, hb3⟩
        have HW3 := Lib.hid (HW2.out.trans (hb3.mono HW2.out.size)); clear hb3
        obtain ⟨b, o, rfl, hc⟩ := HCC.out w3 HW3.out
        have hck := hc s (by rw [HX.out]; exact hs)
        clear hc
        go_wp2_with (fail)
        refine (awake_walk _).mono ?_
        rintro e w4 ⟨rfl, hb4⟩
        have HW4 := Lib.hid (HW3.out.trans (hb4.mono HW3.out.size)); clear hb4
        go_wp2
        go_ret
        exact ⟨rfl, HW4.out⟩
end Chars
end Go.Proofs.Ytoodlanmgboegaa
