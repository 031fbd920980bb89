/- The walk of the program's look at a node: the kinds 1, 2, 3, 4, 5, 6. -/
import Derived.Test.YtpedmaomogigmaaDoorTermFitsM
namespace Go.Proofs.YtpedmaomogigmaaDoor
open Go.RowKit
set_option linter.unusedVariables false
namespace Term
open Words (nameB exnB)

set_option maxRecDepth 100000 in
set_option maxHeartbeats 6400000 in
theorem fits_1 (op pl nn : Int) (nm ar ex : ByteArray) (p : Option Addr) (l c : Nat) (w : World) (hop : 0 ≤ op ∧ op ≤ 255) (hl : l ≤ maxLen) (hs4 : nm.size ≤ maxLen) (hs5 : ar.size ≤ maxLen) (hs6 : ex.size ≤ maxLen) (hkw : Words.KwLaid w) :
    Calls Tryd.prog 25 #[.agg #[.int .u8 1, .int .u8 op, .int .i64 pl, .int .i64 nn, .string nm, .string ar, .string ex, .slice p l c]] w fun e w' => e = .returned (.bool (nodeB ⟨1, op, pl, nn, nm, ar, ex⟩ l)) ∧ Below w.heap.size w w' := by
  have hn := node_is1 op pl nn nm ar ex l
  have hj := fun W => just_walk ⟨1, op, pl, nn, nm, ar, ex⟩ ⟨0, 0, 0, nn, ⟨#[]⟩, ⟨#[]⟩, ⟨#[]⟩⟩ p l c 0 W hl
  have hbox : ∀ O : Obj, Below w.heap.size w (w.alloc O) := fun O => (Below.refl _ _).alloc (Nat.le_refl _) O
  generalize hJ : justB ⟨1, op, pl, nn, nm, ar, ex⟩ ⟨0, 0, 0, nn, ⟨#[]⟩, ⟨#[]⟩, ⟨#[]⟩⟩ l 0 = J at *
  have HNO := Lib.hid hn; have HBOX := Lib.hid hbox; have JW := Lib.hid hj; have HKW := Lib.hid hkw; have HS4 := Lib.hid hs4; have HS5 := Lib.hid hs5; have HS6 := Lib.hid hs6; have HJ := Lib.hid hJ
  clear hn hbox hj hkw hs4 hs5 hs6 hl hJ
  go_enter Tryd.func25, Tryd.ntmps25
  go_wp2_with (fail)
  refine (JW.out _).mono ?_
  rintro e w1 ⟨rfl, hb1⟩
  have b3 := boxAt hb1 3 rfl
  have HB1 := Lib.hid ((HBOX.out _).trans (hb1.mono (HBOX.out _).size)); clear hb1
  cases J
  · go_wp2
    go_ret
    exact ⟨ret_bool (by rw [HNO.out]; rfl), HB1.out⟩
  · by_cases h0 : 0 ≤ nn
    · by_cases h1 : nn ≤ 2147483647
      · go_wp2
        go_ret
        exact ⟨ret_bool (by rw [HNO.out, decide_eq_true (And.intro h0 h1)]; rfl), HB1.out⟩
      · have h2 : decide (nn ≤ 2147483647) = false := decide_eq_false h1
        have hf : decide (0 ≤ nn ∧ nn ≤ 2147483647) = false := decide_eq_false (fun h => h1 h.2)
        have HF := Lib.hid hf
        clear hf
        go_wp2
        go_ret
        exact ⟨ret_bool (by rw [HNO.out, HF.out]; rfl), HB1.out⟩
    · have h2 : decide (0 ≤ nn) = false := decide_eq_false h0
      have hf : decide (0 ≤ nn ∧ nn ≤ 2147483647) = false := decide_eq_false (fun h => h0 h.1)
      have HF := Lib.hid hf
      clear hf
      go_wp2
      go_ret
      exact ⟨ret_bool (by rw [HNO.out, HF.out]; rfl), HB1.out⟩

set_option maxRecDepth 100000 in
set_option maxHeartbeats 6400000 in
theorem fits_2 (op pl nn : Int) (nm ar ex : ByteArray) (p : Option Addr) (l c : Nat) (w : World) (hop : 0 ≤ op ∧ op ≤ 255) (hl : l ≤ maxLen) (hs4 : nm.size ≤ maxLen) (hs5 : ar.size ≤ maxLen) (hs6 : ex.size ≤ maxLen) (hkw : Words.KwLaid w) :
    Calls Tryd.prog 25 #[.agg #[.int .u8 2, .int .u8 op, .int .i64 pl, .int .i64 nn, .string nm, .string ar, .string ex, .slice p l c]] w fun e w' => e = .returned (.bool (nodeB ⟨2, op, pl, nn, nm, ar, ex⟩ l)) ∧ Below w.heap.size w w' := by
  have hn := node_is2 op pl nn nm ar ex l
  have hj := fun W => just_walk ⟨2, op, pl, nn, nm, ar, ex⟩ ⟨0, 0, 0, 0, nm, ⟨#[]⟩, ⟨#[]⟩⟩ p l c 0 W hl
  have hbox : ∀ O : Obj, Below w.heap.size w (w.alloc O) := fun O => (Below.refl _ _).alloc (Nat.le_refl _) O
  generalize hJ : justB ⟨2, op, pl, nn, nm, ar, ex⟩ ⟨0, 0, 0, 0, nm, ⟨#[]⟩, ⟨#[]⟩⟩ l 0 = J at *
  have HNO := Lib.hid hn; have HBOX := Lib.hid hbox; have JW := Lib.hid hj; have HKW := Lib.hid hkw; have HS4 := Lib.hid hs4; have HS5 := Lib.hid hs5; have HS6 := Lib.hid hs6; have HJ := Lib.hid hJ
  clear hn hbox hj hkw hs4 hs5 hs6 hl hJ
  go_enter Tryd.func25, Tryd.ntmps25
  go_wp2_with (fail)
  refine (JW.out _).mono ?_
  rintro e w1 ⟨rfl, hb1⟩
  have b4 := boxAt hb1 4 rfl
  have HB1 := Lib.hid ((HBOX.out _).trans (hb1.mono (HBOX.out _).size)); clear hb1
  cases J
  · go_wp2
    go_ret
    exact ⟨ret_bool (by rw [HNO.out]; rfl), HB1.out⟩
  · go_wp2_with (fail)
    refine (Words.name_at nm _ _ _ rfl HS4.out (HKW.out.below HB1.out)).mono ?_
    rintro e w2 ⟨rfl, hb2⟩
    have HB2 := Lib.hid (HB1.out.trans (hb2.mono HB1.out.size)); clear hb2
    cases hx : nameB nm
    all_goals
      have HX := Lib.hid hx
      clear hx
      go_wp2
      go_ret
      exact ⟨ret_bool (by rw [HNO.out, HX.out]; rfl), HB2.out⟩

set_option maxRecDepth 100000 in
set_option maxHeartbeats 6400000 in
theorem fits_3 (op pl nn : Int) (nm ar ex : ByteArray) (p : Option Addr) (l c : Nat) (w : World) (hop : 0 ≤ op ∧ op ≤ 255) (hl : l ≤ maxLen) (hs4 : nm.size ≤ maxLen) (hs5 : ar.size ≤ maxLen) (hs6 : ex.size ≤ maxLen) (hkw : Words.KwLaid w) :
    Calls Tryd.prog 25 #[.agg #[.int .u8 3, .int .u8 op, .int .i64 pl, .int .i64 nn, .string nm, .string ar, .string ex, .slice p l c]] w fun e w' => e = .returned (.bool (nodeB ⟨3, op, pl, nn, nm, ar, ex⟩ l)) ∧ Below w.heap.size w w' := by
  have hn := node_is3 op pl nn nm ar ex l
  have hj := fun W => just_walk ⟨3, op, pl, nn, nm, ar, ex⟩ ⟨0, 0, 0, 0, ⟨#[]⟩, ⟨#[]⟩, ⟨#[]⟩⟩ p l c 2 W hl
  have hbox : ∀ O : Obj, Below w.heap.size w (w.alloc O) := fun O => (Below.refl _ _).alloc (Nat.le_refl _) O
  generalize hJ : justB ⟨3, op, pl, nn, nm, ar, ex⟩ ⟨0, 0, 0, 0, ⟨#[]⟩, ⟨#[]⟩, ⟨#[]⟩⟩ l 2 = J at *
  have HNO := Lib.hid hn; have HBOX := Lib.hid hbox; have JW := Lib.hid hj; have HKW := Lib.hid hkw; have HS4 := Lib.hid hs4; have HS5 := Lib.hid hs5; have HS6 := Lib.hid hs6; have HJ := Lib.hid hJ
  clear hn hbox hj hkw hs4 hs5 hs6 hl hJ
  go_enter Tryd.func25, Tryd.ntmps25
  go_wp2_with (fail)
  refine (JW.out _).mono ?_
  rintro e w1 ⟨rfl, hb1⟩
  have HB1 := Lib.hid ((HBOX.out _).trans (hb1.mono (HBOX.out _).size)); clear hb1
  cases J
  · go_wp2
    go_ret
    exact ⟨ret_bool (by rw [HNO.out]), HB1.out⟩
  · go_wp2
    go_ret
    exact ⟨ret_bool (by rw [HNO.out]), HB1.out⟩

set_option maxRecDepth 100000 in
set_option maxHeartbeats 6400000 in
theorem fits_4 (op pl nn : Int) (nm ar ex : ByteArray) (p : Option Addr) (l c : Nat) (w : World) (hop : 0 ≤ op ∧ op ≤ 255) (hl : l ≤ maxLen) (hs4 : nm.size ≤ maxLen) (hs5 : ar.size ≤ maxLen) (hs6 : ex.size ≤ maxLen) (hkw : Words.KwLaid w) :
    Calls Tryd.prog 25 #[.agg #[.int .u8 4, .int .u8 op, .int .i64 pl, .int .i64 nn, .string nm, .string ar, .string ex, .slice p l c]] w fun e w' => e = .returned (.bool (nodeB ⟨4, op, pl, nn, nm, ar, ex⟩ l)) ∧ Below w.heap.size w w' := by
  have hn := node_is4 op pl nn nm ar ex l
  have hj := fun W => just_walk ⟨4, op, pl, nn, nm, ar, ex⟩ ⟨0, 0, 0, 0, ⟨#[]⟩, ⟨#[]⟩, ⟨#[]⟩⟩ p l c 1 W hl
  have hbox : ∀ O : Obj, Below w.heap.size w (w.alloc O) := fun O => (Below.refl _ _).alloc (Nat.le_refl _) O
  generalize hJ : justB ⟨4, op, pl, nn, nm, ar, ex⟩ ⟨0, 0, 0, 0, ⟨#[]⟩, ⟨#[]⟩, ⟨#[]⟩⟩ l 1 = J at *
  have HNO := Lib.hid hn; have HBOX := Lib.hid hbox; have JW := Lib.hid hj; have HKW := Lib.hid hkw; have HS4 := Lib.hid hs4; have HS5 := Lib.hid hs5; have HS6 := Lib.hid hs6; have HJ := Lib.hid hJ
  clear hn hbox hj hkw hs4 hs5 hs6 hl hJ
  go_enter Tryd.func25, Tryd.ntmps25
  go_wp2_with (fail)
  refine (JW.out _).mono ?_
  rintro e w1 ⟨rfl, hb1⟩
  have HB1 := Lib.hid ((HBOX.out _).trans (hb1.mono (HBOX.out _).size)); clear hb1
  cases J
  · go_wp2
    go_ret
    exact ⟨ret_bool (by rw [HNO.out]), HB1.out⟩
  · go_wp2
    go_ret
    exact ⟨ret_bool (by rw [HNO.out]), HB1.out⟩

set_option maxRecDepth 100000 in
set_option maxHeartbeats 6400000 in
theorem fits_5 (op pl nn : Int) (nm ar ex : ByteArray) (p : Option Addr) (l c : Nat) (w : World) (hop : 0 ≤ op ∧ op ≤ 255) (hl : l ≤ maxLen) (hs4 : nm.size ≤ maxLen) (hs5 : ar.size ≤ maxLen) (hs6 : ex.size ≤ maxLen) (hkw : Words.KwLaid w) :
    Calls Tryd.prog 25 #[.agg #[.int .u8 5, .int .u8 op, .int .i64 pl, .int .i64 nn, .string nm, .string ar, .string ex, .slice p l c]] w fun e w' => e = .returned (.bool (nodeB ⟨5, op, pl, nn, nm, ar, ex⟩ l)) ∧ Below w.heap.size w w' := by
  have hn := node_is5 op pl nn nm ar ex l
  have hj := fun W => just_walk ⟨5, op, pl, nn, nm, ar, ex⟩ ⟨0, 0, 0, 0, ⟨#[]⟩, ⟨#[]⟩, ⟨#[]⟩⟩ p l c 1 W hl
  have hbox : ∀ O : Obj, Below w.heap.size w (w.alloc O) := fun O => (Below.refl _ _).alloc (Nat.le_refl _) O
  generalize hJ : justB ⟨5, op, pl, nn, nm, ar, ex⟩ ⟨0, 0, 0, 0, ⟨#[]⟩, ⟨#[]⟩, ⟨#[]⟩⟩ l 1 = J at *
  have HNO := Lib.hid hn; have HBOX := Lib.hid hbox; have JW := Lib.hid hj; have HKW := Lib.hid hkw; have HS4 := Lib.hid hs4; have HS5 := Lib.hid hs5; have HS6 := Lib.hid hs6; have HJ := Lib.hid hJ
  clear hn hbox hj hkw hs4 hs5 hs6 hl hJ
  go_enter Tryd.func25, Tryd.ntmps25
  go_wp2_with (fail)
  refine (JW.out _).mono ?_
  rintro e w1 ⟨rfl, hb1⟩
  have HB1 := Lib.hid ((HBOX.out _).trans (hb1.mono (HBOX.out _).size)); clear hb1
  cases J
  · go_wp2
    go_ret
    exact ⟨ret_bool (by rw [HNO.out]), HB1.out⟩
  · go_wp2
    go_ret
    exact ⟨ret_bool (by rw [HNO.out]), HB1.out⟩

set_option maxRecDepth 100000 in
set_option maxHeartbeats 6400000 in
theorem fits_6 (op pl nn : Int) (nm ar ex : ByteArray) (p : Option Addr) (l c : Nat) (w : World) (hop : 0 ≤ op ∧ op ≤ 255) (hl : l ≤ maxLen) (hs4 : nm.size ≤ maxLen) (hs5 : ar.size ≤ maxLen) (hs6 : ex.size ≤ maxLen) (hkw : Words.KwLaid w) :
    Calls Tryd.prog 25 #[.agg #[.int .u8 6, .int .u8 op, .int .i64 pl, .int .i64 nn, .string nm, .string ar, .string ex, .slice p l c]] w fun e w' => e = .returned (.bool (nodeB ⟨6, op, pl, nn, nm, ar, ex⟩ l)) ∧ Below w.heap.size w w' := by
  have hn := node_is6 op pl nn nm ar ex l
  have hj := fun W => just_walk ⟨6, op, pl, nn, nm, ar, ex⟩ ⟨0, 0, 0, 0, ⟨#[]⟩, ⟨#[]⟩, ⟨#[]⟩⟩ p l c 1 W hl
  have hbox : ∀ O : Obj, Below w.heap.size w (w.alloc O) := fun O => (Below.refl _ _).alloc (Nat.le_refl _) O
  generalize hJ : justB ⟨6, op, pl, nn, nm, ar, ex⟩ ⟨0, 0, 0, 0, ⟨#[]⟩, ⟨#[]⟩, ⟨#[]⟩⟩ l 1 = J at *
  have HNO := Lib.hid hn; have HBOX := Lib.hid hbox; have JW := Lib.hid hj; have HKW := Lib.hid hkw; have HS4 := Lib.hid hs4; have HS5 := Lib.hid hs5; have HS6 := Lib.hid hs6; have HJ := Lib.hid hJ
  clear hn hbox hj hkw hs4 hs5 hs6 hl hJ
  go_enter Tryd.func25, Tryd.ntmps25
  go_wp2_with (fail)
  refine (JW.out _).mono ?_
  rintro e w1 ⟨rfl, hb1⟩
  have HB1 := Lib.hid ((HBOX.out _).trans (hb1.mono (HBOX.out _).size)); clear hb1
  cases J
  · go_wp2
    go_ret
    exact ⟨ret_bool (by rw [HNO.out]), HB1.out⟩
  · go_wp2
    go_ret
    exact ⟨ret_bool (by rw [HNO.out]), HB1.out⟩

end Term
end Go.Proofs.YtpedmaomogigmaaDoor
