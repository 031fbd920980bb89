/- The walks of layer 1's statements. -/
import Derived.Test.YtoodlanmgboegaaCharsPlace
import Derived.Laws.BytesArg
set_option linter.unusedVariables false
namespace Go.Proofs.Ytoodlanmgboegaa
open Go.RowKit
namespace Chars

/-- WHAT THE WALK IS TOLD OF A SLICE OF INTEGERS THAT CAME IN: it is nil; or it leads to a row of 'cap' cells, the numbers 'zs' (the first 'len' are its elements, the rest its spare room), each fitting its kind. -/
def IsRow (k : IntKind) (w : World) (a : Option Addr) (len cap : Nat) (zs : List Int) : Prop :=
  (a = none ∧ len = 0 ∧ cap = 0 ∧ zs = []) ∨
  ∃ x, a = some x ∧ len ≤ cap ∧ cap ≤ maxLen ∧ zs.length = cap ∧ (∀ i, i < zs.length → w.cell? (x.add i) = some (.int k (zs.getD i 0))) ∧ ∀ n ∈ zs, (Lit.int k n).wf = true

theorem IsRow.opened {w : World} {a : Option Addr} {len cap : Nat} {zs : List Int} (h : IsRow .u8 w a len cap zs) :
    ∃ xs, xs.length = len ∧ len ≤ cap ∧ cap ≤ maxLen ∧ BytesAt w a xs ∧ Bytes xs := by
  rcases h with ⟨rfl, rfl, rfl, rfl⟩ | ⟨x, rfl, hl, hm, hz, hc, hw⟩
  · exact ⟨[], rfl, by omega, by unfold maxLen; omega, .inl rfl, fun x hx => by simp at hx⟩
  · refine ⟨zs.take len, by rw [List.length_take]; omega, hl, hm, ?_, fun n hn => ?_⟩
    · by_cases h0 : len = 0
      · subst h0; exact .inl (by simp)
      · obtain ⟨b, o, s⟩ := x
        have h1 := hc 0 (by omega)
        have hs : s = none := by simpa [Addr.add] using World.cell?_spot h1
        subst hs
        refine .inr ⟨b, o, rfl, fun i hi => ?_⟩
        have hi' : i < len := by rw [List.length_take] at hi; omega
        have h2 := hc i (by omega)
        have hp : (⟨b, o, none⟩ : Addr).add i = ⟨b, o + i, none⟩ := by unfold Addr.add; split <;> simp_all
        rw [hp] at h2
        rw [h2, List.getD_eq_getElem?_getD, List.getD_eq_getElem?_getD, List.getElem?_take, if_pos hi']
    · have := hw n (List.mem_of_mem_take hn)
      simp [Lit.wf, IntKind.min, IntKind.max, IntKind.signed, IntKind.bits] at this
      omega

theorem conv_bytes (w : World) (p : Option Addr) (n d : Nat) (xs : List Int) (hx : xs.length = n) (hb : BytesAt w p xs) :
    (convert 25 9 (.slice p n d)).run Try.prog w = .ok (.string (strOfNums xs)) w := by
  cases p with
  | none =>
    rcases hb with rfl | ⟨b, o, h, _⟩
    · exact run_convert_bytes_nil w 25 5 Try.underlying25 Try.underlying5 n d 9 Try.underlying9
    · cases h
  | some a =>
    have hl : (loadCells a n).run Try.prog w = .ok (xs.map (Value.int .u8)).toArray w := by
      have := run_loadCells_list (P := Try.prog) w a (xs.map (Value.int .u8)) (fun j v hj => by
        have hjl : j < xs.length := by
          rcases Nat.lt_or_ge j xs.length with h | h
          · exact h
          · simp [List.getElem?_eq_none (show (xs.map (Value.int .u8)).length ≤ j by simpa using h)] at hj
        rcases hb with rfl | ⟨b, o, h, hc⟩
        · simp at hjl
        · cases h
          have hplain : (⟨b, o, none⟩ : Addr).add j = ⟨b, o + j, none⟩ := by unfold Addr.add; split <;> simp_all
          rw [hplain, hc j hjl]
          simp [List.getElem?_eq_getElem hjl] at hj
          subst hj
          simp [List.getD, List.getElem?_eq_getElem hjl])
      simpa [hx] using this
    rw [run_convert_bytes_string w _ _ 5 _ n d Try.underlying25 Try.underlying5 Try.underlying9, run_bytesToString w _ n d xs hl, foldl_push_bytes]
    simp [strOfNums, ByteArray.empty, ByteArray.emptyWithCapacity]
    rfl

theorem charsIs_walk (c : Int) (h0 : 0 ≤ c) (h1 : c ≤ 255) (w : World) :
    Calls Try.prog 3 #[.int .u8 c] w fun e w' => e = .returned (.bool true) ∧ Below w.heap.size w w' := by
  have H0 := Lib.hid h0
  have H1 := Lib.hid h1
  clear h0 h1
  go_enter Try.func3, Try.ntmps3
  go_wp2_with (fail)
  refine (class_walk c H0.out H1.out _).mono ?_
  rintro e w' ⟨rfl, rfl⟩
  go_wp2_with (fail)
  refine (refClass_walk c H0.out H1.out _).mono ?_
  rintro e w' ⟨rfl, hb⟩
  have HB := Lib.hid hb; clear hb
  go_wp2_with (fail)
  refine (awake_walk _).mono ?_
  rintro e w' ⟨rfl, hb⟩
  have HB2 := Lib.hid (HB.out.trans (hb.mono HB.out.size)); clear hb
  go_wp2
  go_ret
  exact ⟨rfl, HB2.out⟩

set_option maxHeartbeats 400000 in
theorem charsSpans_walk (a0 : Option Addr) (len0 cap0 : Nat) (z0 : List Int) (a1 : Int) (a2 : Option Addr) (len2 cap2 : Nat) (z2 : List Int) (w : World) (w0 : IsRow .u8 w a0 len0 cap0 z0) (w2 : IsRow .u8 w a2 len2 cap2 z2) :
    Calls Try.prog 4 #[.slice a0 len0 cap0, .int .i64 a1, .slice a2 len2 cap2] w fun e w' => e = .returned (.bool true) ∧ Below w.heap.size w w' := by
  obtain ⟨xs, hx, hl, hm, hb, hr⟩ := w0.opened
  obtain ⟨ys, hy, hl2, hm2, hb2, _⟩ := w2.opened
  have HX := Lib.hid hx
  have HB := Lib.hid hb
  have HR := Lib.hid hr
  have HY := Lib.hid hy
  have HB2 := Lib.hid hb2
  have hm' := hm
  have hm2' := hm2
  have HM := Lib.hid hm'
  have HM2 := Lib.hid hm2'
  unfold maxLen at hm hm2
  clear hx hb hr hy hb2 hm' hm2' w0 w2
  by_cases c1 : 500 < len0
  · go_enter Try.func4, Try.ntmps4
    go_wp2_with (fail)
    refine (awake_walk _).mono ?_
    rintro e w' ⟨rfl, hb⟩
    have HB3 := Lib.hid hb; clear hb
    go_wp2
    go_ret
    exact ⟨rfl, HB3.out⟩
  by_cases c2 : 20 < len2
  · go_enter Try.func4, Try.ntmps4
    go_wp2_with (fail)
    refine (awake_walk _).mono ?_
    rintro e w' ⟨rfl, hb⟩
    have HB3 := Lib.hid hb; clear hb
    go_wp2
    go_ret
    exact ⟨rfl, HB3.out⟩
  have hcv := fun (W : World) (hW : Below w.heap.size w W) => conv_bytes W a0 len0 cap0 xs HX.out (HB.out.below hW)
  have HCV := Lib.hid hcv
  have hcv0 := hcv w (Below.refl _ _)
  clear hcv
  go_enter Try.func4, Try.ntmps4
  go_wp2_with (fail)
  refine (place_walk a0 len0 cap0 xs a1 _ HX.out hl HM.out (by omega) HB.out HR.out).mono ?_
  rintro e w1 ⟨rfl, hb1⟩
  have HW1 := Lib.hid hb1; clear hb1
  go_wp2_with (fail)
  refine (refPlace_walk a0 len0 cap0 xs a1 _ HX.out (by omega) (HB.out.below HW1.out)).mono ?_
  rintro e w2 ⟨rfl, rfl⟩
  go_wp2_with (fail)
  refine (span_walk a0 len0 cap0 xs a1 _ len2 cap2 ys _ HX.out hl HM.out (HB.out.below HW1.out) HR.out HY.out (Nat.le_trans hl2 HM2.out) (HB2.out.below HW1.out)).mono ?_
  rintro e w2 ⟨rfl, hb2⟩
  have HW2 := Lib.hid (HW1.out.trans (hb2.mono HW1.out.size)); clear hb2
  go_wp2_with (fail)
  refine (refSpan_walk a0 len0 cap0 xs a1 _ len2 cap2 ys _ HX.out (Nat.le_trans hl HM.out) (HB.out.below HW2.out) HR.out HY.out (Nat.le_trans hl2 HM2.out) (HB2.out.below HW2.out)).mono ?_
  rintro e w3 ⟨rfl, hb3⟩
  have HW3 := Lib.hid (HW2.out.trans (hb3.mono HW2.out.size)); clear hb3
  have hcv3 := HCV.out w3 HW3.out
  go_wp2_with (fail)
  refine (awake_walk _).mono ?_
  rintro e w4 ⟨rfl, hb4⟩
  have HW4 := Lib.hid (HW3.out.trans (hb4.mono HW3.out.size)); clear hb4
  go_wp2
  go_ret
  exact ⟨rfl, HW4.out⟩
end Chars
end Go.Proofs.Ytoodlanmgboegaa
