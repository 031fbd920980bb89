/- The walk of the program's look at a node: the kinds 7, 8, 9, 10, 11. -/
import Derived.Test.YtpedmaomogigmaaDoorTermFitsM
namespace Go.Proofs.YtpedmaomogigmaaDoor
open Go.RowKit
set_option linter.unusedVariables false
namespace Term
open Words (nameB exnB)

set_option maxRecDepth 100000 in
set_option maxHeartbeats 6400000 in
theorem fits_7 (op pl nn : Int) (nm ar ex : ByteArray) (p : Option Addr) (l c : Nat) (w : World) (hop : 0 ≤ op ∧ op ≤ 255) (hl : l ≤ maxLen) (hs4 : nm.size ≤ maxLen) (hs5 : ar.size ≤ maxLen) (hs6 : ex.size ≤ maxLen) (hkw : Words.KwLaid w) :
    Calls Tryd.prog 25 #[.agg #[.int .u8 7, .int .u8 op, .int .i64 pl, .int .i64 nn, .string nm, .string ar, .string ex, .slice p l c]] w fun e w' => e = .returned (.bool (nodeB ⟨7, op, pl, nn, nm, ar, ex⟩ l)) ∧ Below w.heap.size w w' := by
  have hn := node_is7 op pl nn nm ar ex l
  have hj := fun W => just_walk ⟨7, op, pl, nn, nm, ar, ex⟩ ⟨0, 0, 0, 0, ⟨#[]⟩, ⟨#[]⟩, ⟨#[]⟩⟩ p l c 1 W hl
  have hbox : ∀ O : Obj, Below w.heap.size w (w.alloc O) := fun O => (Below.refl _ _).alloc (Nat.le_refl _) O
  generalize hJ : justB ⟨7, op, pl, nn, nm, ar, ex⟩ ⟨0, 0, 0, 0, ⟨#[]⟩, ⟨#[]⟩, ⟨#[]⟩⟩ l 1 = J at *
  have HNO := Lib.hid hn; have HBOX := Lib.hid hbox; have JW := Lib.hid hj; have HKW := Lib.hid hkw; have HS4 := Lib.hid hs4; have HS5 := Lib.hid hs5; have HS6 := Lib.hid hs6; have HJ := Lib.hid hJ
  clear hn hbox hj hkw hs4 hs5 hs6 hl hJ
  go_enter Tryd.func25, Tryd.ntmps25
  go_wp2_with (fail)
  refine (JW.out _).mono ?_
  rintro e w1 ⟨rfl, hb1⟩
  have HB1 := Lib.hid ((HBOX.out _).trans (hb1.mono (HBOX.out _).size)); clear hb1
  cases J
  · go_wp2
    go_ret
    exact ⟨ret_bool (by rw [HNO.out]), HB1.out⟩
  · go_wp2
    go_ret
    exact ⟨ret_bool (by rw [HNO.out]), HB1.out⟩

set_option maxRecDepth 100000 in
set_option maxHeartbeats 6400000 in
theorem fits_8 (op pl nn : Int) (nm ar ex : ByteArray) (p : Option Addr) (l c : Nat) (w : World) (hop : 0 ≤ op ∧ op ≤ 255) (hl : l ≤ maxLen) (hs4 : nm.size ≤ maxLen) (hs5 : ar.size ≤ maxLen) (hs6 : ex.size ≤ maxLen) (hkw : Words.KwLaid w) :
    Calls Tryd.prog 25 #[.agg #[.int .u8 8, .int .u8 op, .int .i64 pl, .int .i64 nn, .string nm, .string ar, .string ex, .slice p l c]] w fun e w' => e = .returned (.bool (nodeB ⟨8, op, pl, nn, nm, ar, ex⟩ l)) ∧ Below w.heap.size w w' := by
  have hn := node_is8 op pl nn nm ar ex l
  have hj := fun W => just_walk ⟨8, op, pl, nn, nm, ar, ex⟩ ⟨0, 0, 0, 0, ⟨#[]⟩, ⟨#[]⟩, ⟨#[]⟩⟩ p l c 2 W hl
  have hbox : ∀ O : Obj, Below w.heap.size w (w.alloc O) := fun O => (Below.refl _ _).alloc (Nat.le_refl _) O
  generalize hJ : justB ⟨8, op, pl, nn, nm, ar, ex⟩ ⟨0, 0, 0, 0, ⟨#[]⟩, ⟨#[]⟩, ⟨#[]⟩⟩ l 2 = J at *
  have HNO := Lib.hid hn; have HBOX := Lib.hid hbox; have JW := Lib.hid hj; have HKW := Lib.hid hkw; have HS4 := Lib.hid hs4; have HS5 := Lib.hid hs5; have HS6 := Lib.hid hs6; have HJ := Lib.hid hJ
  clear hn hbox hj hkw hs4 hs5 hs6 hl hJ
  go_enter Tryd.func25, Tryd.ntmps25
  go_wp2_with (fail)
  refine (JW.out _).mono ?_
  rintro e w1 ⟨rfl, hb1⟩
  have HB1 := Lib.hid ((HBOX.out _).trans (hb1.mono (HBOX.out _).size)); clear hb1
  cases J
  · go_wp2
    go_ret
    exact ⟨ret_bool (by rw [HNO.out]), HB1.out⟩
  · go_wp2
    go_ret
    exact ⟨ret_bool (by rw [HNO.out]), HB1.out⟩

set_option maxRecDepth 100000 in
set_option maxHeartbeats 6400000 in
theorem fits_9 (op pl nn : Int) (nm ar ex : ByteArray) (p : Option Addr) (l c : Nat) (w : World) (hop : 0 ≤ op ∧ op ≤ 255) (hl : l ≤ maxLen) (hs4 : nm.size ≤ maxLen) (hs5 : ar.size ≤ maxLen) (hs6 : ex.size ≤ maxLen) (hkw : Words.KwLaid w) :
    Calls Tryd.prog 25 #[.agg #[.int .u8 9, .int .u8 op, .int .i64 pl, .int .i64 nn, .string nm, .string ar, .string ex, .slice p l c]] w fun e w' => e = .returned (.bool (nodeB ⟨9, op, pl, nn, nm, ar, ex⟩ l)) ∧ Below w.heap.size w w' := by
  have hn := node_is9 op pl nn nm ar ex l
  have hj := fun W => just_walk ⟨9, op, pl, nn, nm, ar, ex⟩ ⟨0, op, 0, 0, ⟨#[]⟩, ⟨#[]⟩, ⟨#[]⟩⟩ p l c 2 W hl
  have hbox : ∀ O : Obj, Below w.heap.size w (w.alloc O) := fun O => (Below.refl _ _).alloc (Nat.le_refl _) O
  generalize hJ : justB ⟨9, op, pl, nn, nm, ar, ex⟩ ⟨0, op, 0, 0, ⟨#[]⟩, ⟨#[]⟩, ⟨#[]⟩⟩ l 2 = J at *
  have HNO := Lib.hid hn; have HBOX := Lib.hid hbox; have JW := Lib.hid hj; have HKW := Lib.hid hkw; have HS4 := Lib.hid hs4; have HS5 := Lib.hid hs5; have HS6 := Lib.hid hs6; have HJ := Lib.hid hJ
  clear hn hbox hj hkw hs4 hs5 hs6 hl hJ
  go_enter Tryd.func25, Tryd.ntmps25
  go_wp2_with (fail)
  refine (JW.out _).mono ?_
  rintro e w1 ⟨rfl, hb1⟩
  have b1 := boxAt hb1 1 rfl
  have HB1 := Lib.hid ((HBOX.out _).trans (hb1.mono (HBOX.out _).size)); clear hb1
  cases J
  · go_wp2
    go_ret
    exact ⟨ret_bool (by rw [HNO.out]; rfl), HB1.out⟩
  · by_cases h0 : 1 ≤ op
    · by_cases h1 : op ≤ 5
      · go_wp2
        go_ret
        exact ⟨ret_bool (by rw [HNO.out, decide_eq_true (And.intro h0 h1)]; rfl), HB1.out⟩
      · have h2 : decide (op ≤ 5) = false := decide_eq_false h1
        have hf : decide (1 ≤ op ∧ op ≤ 5) = false := decide_eq_false (fun h => h1 h.2)
        have HF := Lib.hid hf
        clear hf
        go_wp2
        go_ret
        exact ⟨ret_bool (by rw [HNO.out, HF.out]; rfl), HB1.out⟩
    · have h2 : decide (1 ≤ op) = false := decide_eq_false h0
      have hf : decide (1 ≤ op ∧ op ≤ 5) = false := decide_eq_false (fun h => h0 h.1)
      have HF := Lib.hid hf
      clear hf
      go_wp2
      go_ret
      exact ⟨ret_bool (by rw [HNO.out, HF.out]; rfl), HB1.out⟩

set_option maxRecDepth 100000 in
set_option maxHeartbeats 6400000 in
theorem fits_10 (op pl nn : Int) (nm ar ex : ByteArray) (p : Option Addr) (l c : Nat) (w : World) (hop : 0 ≤ op ∧ op ≤ 255) (hl : l ≤ maxLen) (hs4 : nm.size ≤ maxLen) (hs5 : ar.size ≤ maxLen) (hs6 : ex.size ≤ maxLen) (hkw : Words.KwLaid w) :
    Calls Tryd.prog 25 #[.agg #[.int .u8 10, .int .u8 op, .int .i64 pl, .int .i64 nn, .string nm, .string ar, .string ex, .slice p l c]] w fun e w' => e = .returned (.bool (nodeB ⟨10, op, pl, nn, nm, ar, ex⟩ l)) ∧ Below w.heap.size w w' := by
  have hn := node_is10 op pl nn nm ar ex l
  have hj := fun W => just_walk ⟨10, op, pl, nn, nm, ar, ex⟩ ⟨0, 0, 0, 0, ⟨#[]⟩, ⟨#[]⟩, ⟨#[]⟩⟩ p l c 2 W hl
  have hbox : ∀ O : Obj, Below w.heap.size w (w.alloc O) := fun O => (Below.refl _ _).alloc (Nat.le_refl _) O
  generalize hJ : justB ⟨10, op, pl, nn, nm, ar, ex⟩ ⟨0, 0, 0, 0, ⟨#[]⟩, ⟨#[]⟩, ⟨#[]⟩⟩ l 2 = J at *
  have HNO := Lib.hid hn; have HBOX := Lib.hid hbox; have JW := Lib.hid hj; have HKW := Lib.hid hkw; have HS4 := Lib.hid hs4; have HS5 := Lib.hid hs5; have HS6 := Lib.hid hs6; have HJ := Lib.hid hJ
  clear hn hbox hj hkw hs4 hs5 hs6 hl hJ
  go_enter Tryd.func25, Tryd.ntmps25
  go_wp2_with (fail)
  refine (JW.out _).mono ?_
  rintro e w1 ⟨rfl, hb1⟩
  have HB1 := Lib.hid ((HBOX.out _).trans (hb1.mono (HBOX.out _).size)); clear hb1
  cases J
  · go_wp2
    go_ret
    exact ⟨ret_bool (by rw [HNO.out]), HB1.out⟩
  · go_wp2
    go_ret
    exact ⟨ret_bool (by rw [HNO.out]), HB1.out⟩

set_option maxRecDepth 100000 in
set_option maxHeartbeats 6400000 in
theorem fits_11 (op pl nn : Int) (nm ar ex : ByteArray) (p : Option Addr) (l c : Nat) (w : World) (hop : 0 ≤ op ∧ op ≤ 255) (hl : l ≤ maxLen) (hs4 : nm.size ≤ maxLen) (hs5 : ar.size ≤ maxLen) (hs6 : ex.size ≤ maxLen) (hkw : Words.KwLaid w) :
    Calls Tryd.prog 25 #[.agg #[.int .u8 11, .int .u8 op, .int .i64 pl, .int .i64 nn, .string nm, .string ar, .string ex, .slice p l c]] w fun e w' => e = .returned (.bool (nodeB ⟨11, op, pl, nn, nm, ar, ex⟩ l)) ∧ Below w.heap.size w w' := by
  have hn := node_is11 op pl nn nm ar ex l
  have hj := fun W => just_walk ⟨11, op, pl, nn, nm, ar, ex⟩ ⟨0, 0, 0, 0, ⟨#[]⟩, ar, ⟨#[]⟩⟩ p l c 1 W hl
  have hbox : ∀ O : Obj, Below w.heap.size w (w.alloc O) := fun O => (Below.refl _ _).alloc (Nat.le_refl _) O
  generalize hJ : justB ⟨11, op, pl, nn, nm, ar, ex⟩ ⟨0, 0, 0, 0, ⟨#[]⟩, ar, ⟨#[]⟩⟩ l 1 = J at *
  have HNO := Lib.hid hn; have HBOX := Lib.hid hbox; have JW := Lib.hid hj; have HKW := Lib.hid hkw; have HS4 := Lib.hid hs4; have HS5 := Lib.hid hs5; have HS6 := Lib.hid hs6; have HJ := Lib.hid hJ
  clear hn hbox hj hkw hs4 hs5 hs6 hl hJ
  go_enter Tryd.func25, Tryd.ntmps25
  go_wp2_with (fail)
  refine (JW.out _).mono ?_
  rintro e w1 ⟨rfl, hb1⟩
  have b5 := boxAt hb1 5 rfl
  have HB1 := Lib.hid ((HBOX.out _).trans (hb1.mono (HBOX.out _).size)); clear hb1
  cases J
  · go_wp2
    go_ret
    exact ⟨ret_bool (by rw [HNO.out]; rfl), HB1.out⟩
  · go_wp2_with (fail)
    refine (Words.name_at ar _ _ _ rfl HS5.out (HKW.out.below HB1.out)).mono ?_
    rintro e w2 ⟨rfl, hb2⟩
    have HB2 := Lib.hid (HB1.out.trans (hb2.mono HB1.out.size)); clear hb2
    cases hx : nameB ar
    all_goals
      have HX := Lib.hid hx
      clear hx
      go_wp2
      go_ret
      exact ⟨ret_bool (by rw [HNO.out, HX.out]; rfl), HB2.out⟩

end Term
end Go.Proofs.YtpedmaomogigmaaDoor
