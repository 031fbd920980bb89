import Derived.Test.YtkfkpjngiffamaaGreatDoorGC13
import Derived.Test.YtkfkpjngiffamaaGreatDoorGC09
namespace Go.Proofs.YtkfkpjngiffamaaGreatDoor
open Go.RowKit
set_option linter.unusedVariables false
namespace Term
open Words (nameB exnB)

set_option maxRecDepth 100000 in
set_option maxHeartbeats 6400000 in
theorem fits_1 (op pl nn : Int) (nm ar ex : ByteArray) (p : Option Addr) (l c : Nat) (w : World) (hop : 0 ≤ op ∧ op ≤ 255) (hl : l ≤ maxLen) (hs4 : nm.size ≤ maxLen) (hs5 : ar.size ≤ maxLen) (hs6 : ex.size ≤ maxLen) (hkw : Words.KwLaid w) :
  Calls Tryz.prog 99 #[.agg #[.int .u8 1, .int .u8 op, .int .i64 pl, .int .i64 nn, .string nm, .string ar, .string ex, .slice p l c]] w fun e w' => e = .returned (.bool (nodeB ⟨1, op, pl, nn, nm, ar, ex⟩ l)) ∧ Below w.heap.size w w' := by
 have hn := node_is1 op pl nn nm ar ex l
 have hj := fun W => just_walk ⟨1, op, pl, nn, nm, ar, ex⟩ ⟨0, 0, 0, nn, ⟨#[]⟩, ⟨#[]⟩, ⟨#[]⟩⟩ p l c 0 W hl
 have hbox : ∀ O : Obj, Below w.heap.size w (w.alloc O) := fun O => (Below.refl _ _).alloc (Nat.le_refl _) O
 generalize hJ : justB ⟨1, op, pl, nn, nm, ar, ex⟩ ⟨0, 0, 0, nn, ⟨#[]⟩, ⟨#[]⟩, ⟨#[]⟩⟩ l 0 = J at *
 have HNO := Lib.hid hn; have HBOX := Lib.hid hbox; have JW := Lib.hid hj; have HKW := Lib.hid hkw; have HS4 := Lib.hid hs4; have HS5 := Lib.hid hs5; have HS6 := Lib.hid hs6; have HJ := Lib.hid hJ
 clear hn hbox hj hkw hs4 hs5 hs6 hl hJ
 go_enter Tryz.func99, Tryz.ntmps99
 go_wp2_with (fail)
 refine (JW.out _).mono ?_
 rintro e w1 ⟨rfl, hb1⟩
 have b3 := boxAt hb1 3 rfl
 have HB1 := Lib.hid ((HBOX.out _).trans (hb1.mono (HBOX.out _).size)); clear hb1
 cases J
 ·go_wp2
  go_ret
  exact ⟨ret_bool (by rw [HNO.out]; rfl), HB1.out⟩
 ·by_cases h0 : 0 ≤ nn
  ·by_cases h1 : nn ≤ 2147483647
   ·go_wp2
    go_ret
    exact ⟨ret_bool (by rw [HNO.out, decide_eq_true (And.intro h0 h1)]; rfl), HB1.out⟩
   ·have h2 : decide (nn ≤ 2147483647) = false := decide_eq_false h1
    have hf : decide (0 ≤ nn ∧ nn ≤ 2147483647) = false := decide_eq_false (fun h => h1 h.2)
    have HF := Lib.hid hf
    clear hf
    go_wp2
    go_ret
    exact ⟨ret_bool (by rw [HNO.out, HF.out]; rfl), HB1.out⟩
  ·have h2 : decide (0 ≤ nn) = false := decide_eq_false h0
   have hf : decide (0 ≤ nn ∧ nn ≤ 2147483647) = false := decide_eq_false (fun h => h0 h.1)
   have HF := Lib.hid hf
   clear hf
   go_wp2
   go_ret
   exact ⟨ret_bool (by rw [HNO.out, HF.out]; rfl), HB1.out⟩

set_option maxRecDepth 100000 in
set_option maxHeartbeats 6400000 in
theorem fits_2 (op pl nn : Int) (nm ar ex : ByteArray) (p : Option Addr) (l c : Nat) (w : World) (hop : 0 ≤ op ∧ op ≤ 255) (hl : l ≤ maxLen) (hs4 : nm.size ≤ maxLen) (hs5 : ar.size ≤ maxLen) (hs6 : ex.size ≤ maxLen) (hkw : Words.KwLaid w) :
  Calls Tryz.prog 99 #[.agg #[.int .u8 2, .int .u8 op, .int .i64 pl, .int .i64 nn, .string nm, .string ar, .string ex, .slice p l c]] w fun e w' => e = .returned (.bool (nodeB ⟨2, op, pl, nn, nm, ar, ex⟩ l)) ∧ Below w.heap.size w w' := by
 have hn := node_is2 op pl nn nm ar ex l
 have hj := fun W => just_walk ⟨2, op, pl, nn, nm, ar, ex⟩ ⟨0, 0, 0, 0, nm, ⟨#[]⟩, ⟨#[]⟩⟩ p l c 0 W hl
 have hbox : ∀ O : Obj, Below w.heap.size w (w.alloc O) := fun O => (Below.refl _ _).alloc (Nat.le_refl _) O
 generalize hJ : justB ⟨2, op, pl, nn, nm, ar, ex⟩ ⟨0, 0, 0, 0, nm, ⟨#[]⟩, ⟨#[]⟩⟩ l 0 = J at *
 have HNO := Lib.hid hn; have HBOX := Lib.hid hbox; have JW := Lib.hid hj; have HKW := Lib.hid hkw; have HS4 := Lib.hid hs4; have HS5 := Lib.hid hs5; have HS6 := Lib.hid hs6; have HJ := Lib.hid hJ
 clear hn hbox hj hkw hs4 hs5 hs6 hl hJ
 go_enter Tryz.func99, Tryz.ntmps99
 go_wp2_with (fail)
 refine (JW.out _).mono ?_
 rintro e w1 ⟨rfl, hb1⟩
 have b4 := boxAt hb1 4 rfl
 have HB1 := Lib.hid ((HBOX.out _).trans (hb1.mono (HBOX.out _).size)); clear hb1
 cases J
 ·go_wp2
  go_ret
  exact ⟨ret_bool (by rw [HNO.out]; rfl), HB1.out⟩
 ·go_wp2_with (fail)
  refine (Words.name_at nm _ _ _ rfl HS4.out (HKW.out.below HB1.out)).mono ?_
  rintro e w2 ⟨rfl, hb2⟩
  have HB2 := Lib.hid (HB1.out.trans (hb2.mono HB1.out.size)); clear hb2
  cases hx : nameB nm
  all_goals
   have HX := Lib.hid hx
   clear hx
   go_wp2
   go_ret
   exact ⟨ret_bool (by rw [HNO.out, HX.out]; rfl), HB2.out⟩

set_option maxRecDepth 100000 in
set_option maxHeartbeats 6400000 in
theorem fits_3 (op pl nn : Int) (nm ar ex : ByteArray) (p : Option Addr) (l c : Nat) (w : World) (hop : 0 ≤ op ∧ op ≤ 255) (hl : l ≤ maxLen) (hs4 : nm.size ≤ maxLen) (hs5 : ar.size ≤ maxLen) (hs6 : ex.size ≤ maxLen) (hkw : Words.KwLaid w) :
  Calls Tryz.prog 99 #[.agg #[.int .u8 3, .int .u8 op, .int .i64 pl, .int .i64 nn, .string nm, .string ar, .string ex, .slice p l c]] w fun e w' => e = .returned (.bool (nodeB ⟨3, op, pl, nn, nm, ar, ex⟩ l)) ∧ Below w.heap.size w w' := by
 have hn := node_is3 op pl nn nm ar ex l
 have hj := fun W => just_walk ⟨3, op, pl, nn, nm, ar, ex⟩ ⟨0, 0, 0, 0, ⟨#[]⟩, ⟨#[]⟩, ⟨#[]⟩⟩ p l c 2 W hl
 have hbox : ∀ O : Obj, Below w.heap.size w (w.alloc O) := fun O => (Below.refl _ _).alloc (Nat.le_refl _) O
 generalize hJ : justB ⟨3, op, pl, nn, nm, ar, ex⟩ ⟨0, 0, 0, 0, ⟨#[]⟩, ⟨#[]⟩, ⟨#[]⟩⟩ l 2 = J at *
 have HNO := Lib.hid hn; have HBOX := Lib.hid hbox; have JW := Lib.hid hj; have HKW := Lib.hid hkw; have HS4 := Lib.hid hs4; have HS5 := Lib.hid hs5; have HS6 := Lib.hid hs6; have HJ := Lib.hid hJ
 clear hn hbox hj hkw hs4 hs5 hs6 hl hJ
 go_enter Tryz.func99, Tryz.ntmps99
 go_wp2_with (fail)
 refine (JW.out _).mono ?_
 rintro e w1 ⟨rfl, hb1⟩
 have HB1 := Lib.hid ((HBOX.out _).trans (hb1.mono (HBOX.out _).size)); clear hb1
 cases J
 ·go_wp2
  go_ret
  exact ⟨ret_bool (by rw [HNO.out]), HB1.out⟩
 ·go_wp2
  go_ret
  exact ⟨ret_bool (by rw [HNO.out]), HB1.out⟩

set_option maxRecDepth 100000 in
set_option maxHeartbeats 6400000 in
theorem fits_4 (op pl nn : Int) (nm ar ex : ByteArray) (p : Option Addr) (l c : Nat) (w : World) (hop : 0 ≤ op ∧ op ≤ 255) (hl : l ≤ maxLen) (hs4 : nm.size ≤ maxLen) (hs5 : ar.size ≤ maxLen) (hs6 : ex.size ≤ maxLen) (hkw : Words.KwLaid w) :
  Calls Tryz.prog 99 #[.agg #[.int .u8 4, .int .u8 op, .int .i64 pl, .int .i64 nn, .string nm, .string ar, .string ex, .slice p l c]] w fun e w' => e = .returned (.bool (nodeB ⟨4, op, pl, nn, nm, ar, ex⟩ l)) ∧ Below w.heap.size w w' := by
 have hn := node_is4 op pl nn nm ar ex l
 have hj := fun W => just_walk ⟨4, op, pl, nn, nm, ar, ex⟩ ⟨0, 0, 0, 0, ⟨#[]⟩, ⟨#[]⟩, ⟨#[]⟩⟩ p l c 1 W hl
 have hbox : ∀ O : Obj, Below w.heap.size w (w.alloc O) := fun O => (Below.refl _ _).alloc (Nat.le_refl _) O
 generalize hJ : justB ⟨4, op, pl, nn, nm, ar, ex⟩ ⟨0, 0, 0, 0, ⟨#[]⟩, ⟨#[]⟩, ⟨#[]⟩⟩ l 1 = J at *
 have HNO := Lib.hid hn; have HBOX := Lib.hid hbox; have JW := Lib.hid hj; have HKW := Lib.hid hkw; have HS4 := Lib.hid hs4; have HS5 := Lib.hid hs5; have HS6 := Lib.hid hs6; have HJ := Lib.hid hJ
 clear hn hbox hj hkw hs4 hs5 hs6 hl hJ
 go_enter Tryz.func99, Tryz.ntmps99
 go_wp2_with (fail)
 refine (JW.out _).mono ?_
 rintro e w1 ⟨rfl, hb1⟩
 have HB1 := Lib.hid ((HBOX.out _).trans (hb1.mono (HBOX.out _).size)); clear hb1
 cases J
 ·go_wp2
  go_ret
  exact ⟨ret_bool (by rw [HNO.out]), HB1.out⟩
 ·go_wp2
  go_ret
  exact ⟨ret_bool (by rw [HNO.out]), HB1.out⟩

set_option maxRecDepth 100000 in
set_option maxHeartbeats 6400000 in
theorem fits_5 (op pl nn : Int) (nm ar ex : ByteArray) (p : Option Addr) (l c : Nat) (w : World) (hop : 0 ≤ op ∧ op ≤ 255) (hl : l ≤ maxLen) (hs4 : nm.size ≤ maxLen) (hs5 : ar.size ≤ maxLen) (hs6 : ex.size ≤ maxLen) (hkw : Words.KwLaid w) :
  Calls Tryz.prog 99 #[.agg #[.int .u8 5, .int .u8 op, .int .i64 pl, .int .i64 nn, .string nm, .string ar, .string ex, .slice p l c]] w fun e w' => e = .returned (.bool (nodeB ⟨5, op, pl, nn, nm, ar, ex⟩ l)) ∧ Below w.heap.size w w' := by
 have hn := node_is5 op pl nn nm ar ex l
 have hj := fun W => just_walk ⟨5, op, pl, nn, nm, ar, ex⟩ ⟨0, 0, 0, 0, ⟨#[]⟩, ⟨#[]⟩, ⟨#[]⟩⟩ p l c 1 W hl
 have hbox : ∀ O : Obj, Below w.heap.size w (w.alloc O) := fun O => (Below.refl _ _).alloc (Nat.le_refl _) O
 generalize hJ : justB ⟨5, op, pl, nn, nm, ar, ex⟩ ⟨0, 0, 0, 0, ⟨#[]⟩, ⟨#[]⟩, ⟨#[]⟩⟩ l 1 = J at *
 have HNO := Lib.hid hn; have HBOX := Lib.hid hbox; have JW := Lib.hid hj; have HKW := Lib.hid hkw; have HS4 := Lib.hid hs4; have HS5 := Lib.hid hs5; have HS6 := Lib.hid hs6; have HJ := Lib.hid hJ
 clear hn hbox hj hkw hs4 hs5 hs6 hl hJ
 go_enter Tryz.func99, Tryz.ntmps99
 go_wp2_with (fail)
 refine (JW.out _).mono ?_
 rintro e w1 ⟨rfl, hb1⟩
 have HB1 := Lib.hid ((HBOX.out _).trans (hb1.mono (HBOX.out _).size)); clear hb1
 cases J
 ·go_wp2
  go_ret
  exact ⟨ret_bool (by rw [HNO.out]), HB1.out⟩
 ·go_wp2
  go_ret
  exact ⟨ret_bool (by rw [HNO.out]), HB1.out⟩

set_option maxRecDepth 100000 in
set_option maxHeartbeats 6400000 in
theorem fits_6 (op pl nn : Int) (nm ar ex : ByteArray) (p : Option Addr) (l c : Nat) (w : World) (hop : 0 ≤ op ∧ op ≤ 255) (hl : l ≤ maxLen) (hs4 : nm.size ≤ maxLen) (hs5 : ar.size ≤ maxLen) (hs6 : ex.size ≤ maxLen) (hkw : Words.KwLaid w) :
  Calls Tryz.prog 99 #[.agg #[.int .u8 6, .int .u8 op, .int .i64 pl, .int .i64 nn, .string nm, .string ar, .string ex, .slice p l c]] w fun e w' => e = .returned (.bool (nodeB ⟨6, op, pl, nn, nm, ar, ex⟩ l)) ∧ Below w.heap.size w w' := by
 have hn := node_is6 op pl nn nm ar ex l
 have hj := fun W => just_walk ⟨6, op, pl, nn, nm, ar, ex⟩ ⟨0, 0, 0, 0, ⟨#[]⟩, ⟨#[]⟩, ⟨#[]⟩⟩ p l c 1 W hl
 have hbox : ∀ O : Obj, Below w.heap.size w (w.alloc O) := fun O => (Below.refl _ _).alloc (Nat.le_refl _) O
 generalize hJ : justB ⟨6, op, pl, nn, nm, ar, ex⟩ ⟨0, 0, 0, 0, ⟨#[]⟩, ⟨#[]⟩, ⟨#[]⟩⟩ l 1 = J at *
 have HNO := Lib.hid hn; have HBOX := Lib.hid hbox; have JW := Lib.hid hj; have HKW := Lib.hid hkw; have HS4 := Lib.hid hs4; have HS5 := Lib.hid hs5; have HS6 := Lib.hid hs6; have HJ := Lib.hid hJ
 clear hn hbox hj hkw hs4 hs5 hs6 hl hJ
 go_enter Tryz.func99, Tryz.ntmps99
 go_wp2_with (fail)
 refine (JW.out _).mono ?_
 rintro e w1 ⟨rfl, hb1⟩
 have HB1 := Lib.hid ((HBOX.out _).trans (hb1.mono (HBOX.out _).size)); clear hb1
 cases J
 ·go_wp2
  go_ret
  exact ⟨ret_bool (by rw [HNO.out]), HB1.out⟩
 ·go_wp2
  go_ret
  exact ⟨ret_bool (by rw [HNO.out]), HB1.out⟩

end Term
end Go.Proofs.YtkfkpjngiffamaaGreatDoor
namespace Go.Proofs.YtkfkpjngiffamaaGreatDoor
open Go.RowKit
set_option linter.unusedVariables false
namespace Term
open Words (nameB exnB)

set_option maxRecDepth 100000 in
set_option maxHeartbeats 6400000 in
theorem fits_7 (op pl nn : Int) (nm ar ex : ByteArray) (p : Option Addr) (l c : Nat) (w : World) (hop : 0 ≤ op ∧ op ≤ 255) (hl : l ≤ maxLen) (hs4 : nm.size ≤ maxLen) (hs5 : ar.size ≤ maxLen) (hs6 : ex.size ≤ maxLen) (hkw : Words.KwLaid w) :
  Calls Tryz.prog 99 #[.agg #[.int .u8 7, .int .u8 op, .int .i64 pl, .int .i64 nn, .string nm, .string ar, .string ex, .slice p l c]] w fun e w' => e = .returned (.bool (nodeB ⟨7, op, pl, nn, nm, ar, ex⟩ l)) ∧ Below w.heap.size w w' := by
 have hn := node_is7 op pl nn nm ar ex l
 have hj := fun W => just_walk ⟨7, op, pl, nn, nm, ar, ex⟩ ⟨0, 0, 0, 0, ⟨#[]⟩, ⟨#[]⟩, ⟨#[]⟩⟩ p l c 1 W hl
 have hbox : ∀ O : Obj, Below w.heap.size w (w.alloc O) := fun O => (Below.refl _ _).alloc (Nat.le_refl _) O
 generalize hJ : justB ⟨7, op, pl, nn, nm, ar, ex⟩ ⟨0, 0, 0, 0, ⟨#[]⟩, ⟨#[]⟩, ⟨#[]⟩⟩ l 1 = J at *
 have HNO := Lib.hid hn; have HBOX := Lib.hid hbox; have JW := Lib.hid hj; have HKW := Lib.hid hkw; have HS4 := Lib.hid hs4; have HS5 := Lib.hid hs5; have HS6 := Lib.hid hs6; have HJ := Lib.hid hJ
 clear hn hbox hj hkw hs4 hs5 hs6 hl hJ
 go_enter Tryz.func99, Tryz.ntmps99
 go_wp2_with (fail)
 refine (JW.out _).mono ?_
 rintro e w1 ⟨rfl, hb1⟩
 have HB1 := Lib.hid ((HBOX.out _).trans (hb1.mono (HBOX.out _).size)); clear hb1
 cases J
 ·go_wp2
  go_ret
  exact ⟨ret_bool (by rw [HNO.out]), HB1.out⟩
 ·go_wp2
  go_ret
  exact ⟨ret_bool (by rw [HNO.out]), HB1.out⟩

set_option maxRecDepth 100000 in
set_option maxHeartbeats 6400000 in
theorem fits_8 (op pl nn : Int) (nm ar ex : ByteArray) (p : Option Addr) (l c : Nat) (w : World) (hop : 0 ≤ op ∧ op ≤ 255) (hl : l ≤ maxLen) (hs4 : nm.size ≤ maxLen) (hs5 : ar.size ≤ maxLen) (hs6 : ex.size ≤ maxLen) (hkw : Words.KwLaid w) :
  Calls Tryz.prog 99 #[.agg #[.int .u8 8, .int .u8 op, .int .i64 pl, .int .i64 nn, .string nm, .string ar, .string ex, .slice p l c]] w fun e w' => e = .returned (.bool (nodeB ⟨8, op, pl, nn, nm, ar, ex⟩ l)) ∧ Below w.heap.size w w' := by
 have hn := node_is8 op pl nn nm ar ex l
 have hj := fun W => just_walk ⟨8, op, pl, nn, nm, ar, ex⟩ ⟨0, 0, 0, 0, ⟨#[]⟩, ⟨#[]⟩, ⟨#[]⟩⟩ p l c 2 W hl
 have hbox : ∀ O : Obj, Below w.heap.size w (w.alloc O) := fun O => (Below.refl _ _).alloc (Nat.le_refl _) O
 generalize hJ : justB ⟨8, op, pl, nn, nm, ar, ex⟩ ⟨0, 0, 0, 0, ⟨#[]⟩, ⟨#[]⟩, ⟨#[]⟩⟩ l 2 = J at *
 have HNO := Lib.hid hn; have HBOX := Lib.hid hbox; have JW := Lib.hid hj; have HKW := Lib.hid hkw; have HS4 := Lib.hid hs4; have HS5 := Lib.hid hs5; have HS6 := Lib.hid hs6; have HJ := Lib.hid hJ
 clear hn hbox hj hkw hs4 hs5 hs6 hl hJ
 go_enter Tryz.func99, Tryz.ntmps99
 go_wp2_with (fail)
 refine (JW.out _).mono ?_
 rintro e w1 ⟨rfl, hb1⟩
 have HB1 := Lib.hid ((HBOX.out _).trans (hb1.mono (HBOX.out _).size)); clear hb1
 cases J
 ·go_wp2
  go_ret
  exact ⟨ret_bool (by rw [HNO.out]), HB1.out⟩
 ·go_wp2
  go_ret
  exact ⟨ret_bool (by rw [HNO.out]), HB1.out⟩

set_option maxRecDepth 100000 in
set_option maxHeartbeats 6400000 in
theorem fits_9 (op pl nn : Int) (nm ar ex : ByteArray) (p : Option Addr) (l c : Nat) (w : World) (hop : 0 ≤ op ∧ op ≤ 255) (hl : l ≤ maxLen) (hs4 : nm.size ≤ maxLen) (hs5 : ar.size ≤ maxLen) (hs6 : ex.size ≤ maxLen) (hkw : Words.KwLaid w) :
  Calls Tryz.prog 99 #[.agg #[.int .u8 9, .int .u8 op, .int .i64 pl, .int .i64 nn, .string nm, .string ar, .string ex, .slice p l c]] w fun e w' => e = .returned (.bool (nodeB ⟨9, op, pl, nn, nm, ar, ex⟩ l)) ∧ Below w.heap.size w w' := by
 have hn := node_is9 op pl nn nm ar ex l
 have hj := fun W => just_walk ⟨9, op, pl, nn, nm, ar, ex⟩ ⟨0, op, 0, 0, ⟨#[]⟩, ⟨#[]⟩, ⟨#[]⟩⟩ p l c 2 W hl
 have hbox : ∀ O : Obj, Below w.heap.size w (w.alloc O) := fun O => (Below.refl _ _).alloc (Nat.le_refl _) O
 generalize hJ : justB ⟨9, op, pl, nn, nm, ar, ex⟩ ⟨0, op, 0, 0, ⟨#[]⟩, ⟨#[]⟩, ⟨#[]⟩⟩ l 2 = J at *
 have HNO := Lib.hid hn; have HBOX := Lib.hid hbox; have JW := Lib.hid hj; have HKW := Lib.hid hkw; have HS4 := Lib.hid hs4; have HS5 := Lib.hid hs5; have HS6 := Lib.hid hs6; have HJ := Lib.hid hJ
 clear hn hbox hj hkw hs4 hs5 hs6 hl hJ
 go_enter Tryz.func99, Tryz.ntmps99
 go_wp2_with (fail)
 refine (JW.out _).mono ?_
 rintro e w1 ⟨rfl, hb1⟩
 have b1 := boxAt hb1 1 rfl
 have HB1 := Lib.hid ((HBOX.out _).trans (hb1.mono (HBOX.out _).size)); clear hb1
 cases J
 ·go_wp2
  go_ret
  exact ⟨ret_bool (by rw [HNO.out]; rfl), HB1.out⟩
 ·by_cases h0 : 1 ≤ op
  ·by_cases h1 : op ≤ 5
   ·go_wp2
    go_ret
    exact ⟨ret_bool (by rw [HNO.out, decide_eq_true (And.intro h0 h1)]; rfl), HB1.out⟩
   ·have h2 : decide (op ≤ 5) = false := decide_eq_false h1
    have hf : decide (1 ≤ op ∧ op ≤ 5) = false := decide_eq_false (fun h => h1 h.2)
    have HF := Lib.hid hf
    clear hf
    go_wp2
    go_ret
    exact ⟨ret_bool (by rw [HNO.out, HF.out]; rfl), HB1.out⟩
  ·have h2 : decide (1 ≤ op) = false := decide_eq_false h0
   have hf : decide (1 ≤ op ∧ op ≤ 5) = false := decide_eq_false (fun h => h0 h.1)
   have HF := Lib.hid hf
   clear hf
   go_wp2
   go_ret
   exact ⟨ret_bool (by rw [HNO.out, HF.out]; rfl), HB1.out⟩

set_option maxRecDepth 100000 in
set_option maxHeartbeats 6400000 in
theorem fits_10 (op pl nn : Int) (nm ar ex : ByteArray) (p : Option Addr) (l c : Nat) (w : World) (hop : 0 ≤ op ∧ op ≤ 255) (hl : l ≤ maxLen) (hs4 : nm.size ≤ maxLen) (hs5 : ar.size ≤ maxLen) (hs6 : ex.size ≤ maxLen) (hkw : Words.KwLaid w) :
  Calls Tryz.prog 99 #[.agg #[.int .u8 10, .int .u8 op, .int .i64 pl, .int .i64 nn, .string nm, .string ar, .string ex, .slice p l c]] w fun e w' => e = .returned (.bool (nodeB ⟨10, op, pl, nn, nm, ar, ex⟩ l)) ∧ Below w.heap.size w w' := by
 have hn := node_is10 op pl nn nm ar ex l
 have hj := fun W => just_walk ⟨10, op, pl, nn, nm, ar, ex⟩ ⟨0, 0, 0, 0, ⟨#[]⟩, ⟨#[]⟩, ⟨#[]⟩⟩ p l c 2 W hl
 have hbox : ∀ O : Obj, Below w.heap.size w (w.alloc O) := fun O => (Below.refl _ _).alloc (Nat.le_refl _) O
 generalize hJ : justB ⟨10, op, pl, nn, nm, ar, ex⟩ ⟨0, 0, 0, 0, ⟨#[]⟩, ⟨#[]⟩, ⟨#[]⟩⟩ l 2 = J at *
 have HNO := Lib.hid hn; have HBOX := Lib.hid hbox; have JW := Lib.hid hj; have HKW := Lib.hid hkw; have HS4 := Lib.hid hs4; have HS5 := Lib.hid hs5; have HS6 := Lib.hid hs6; have HJ := Lib.hid hJ
 clear hn hbox hj hkw hs4 hs5 hs6 hl hJ
 go_enter Tryz.func99, Tryz.ntmps99
 go_wp2_with (fail)
 refine (JW.out _).mono ?_
 rintro e w1 ⟨rfl, hb1⟩
 have HB1 := Lib.hid ((HBOX.out _).trans (hb1.mono (HBOX.out _).size)); clear hb1
 cases J
 ·go_wp2
  go_ret
  exact ⟨ret_bool (by rw [HNO.out]), HB1.out⟩
 ·go_wp2
  go_ret
  exact ⟨ret_bool (by rw [HNO.out]), HB1.out⟩

set_option maxRecDepth 100000 in
set_option maxHeartbeats 6400000 in
theorem fits_11 (op pl nn : Int) (nm ar ex : ByteArray) (p : Option Addr) (l c : Nat) (w : World) (hop : 0 ≤ op ∧ op ≤ 255) (hl : l ≤ maxLen) (hs4 : nm.size ≤ maxLen) (hs5 : ar.size ≤ maxLen) (hs6 : ex.size ≤ maxLen) (hkw : Words.KwLaid w) :
  Calls Tryz.prog 99 #[.agg #[.int .u8 11, .int .u8 op, .int .i64 pl, .int .i64 nn, .string nm, .string ar, .string ex, .slice p l c]] w fun e w' => e = .returned (.bool (nodeB ⟨11, op, pl, nn, nm, ar, ex⟩ l)) ∧ Below w.heap.size w w' := by
 have hn := node_is11 op pl nn nm ar ex l
 have hj := fun W => just_walk ⟨11, op, pl, nn, nm, ar, ex⟩ ⟨0, 0, 0, 0, ⟨#[]⟩, ar, ⟨#[]⟩⟩ p l c 1 W hl
 have hbox : ∀ O : Obj, Below w.heap.size w (w.alloc O) := fun O => (Below.refl _ _).alloc (Nat.le_refl _) O
 generalize hJ : justB ⟨11, op, pl, nn, nm, ar, ex⟩ ⟨0, 0, 0, 0, ⟨#[]⟩, ar, ⟨#[]⟩⟩ l 1 = J at *
 have HNO := Lib.hid hn; have HBOX := Lib.hid hbox; have JW := Lib.hid hj; have HKW := Lib.hid hkw; have HS4 := Lib.hid hs4; have HS5 := Lib.hid hs5; have HS6 := Lib.hid hs6; have HJ := Lib.hid hJ
 clear hn hbox hj hkw hs4 hs5 hs6 hl hJ
 go_enter Tryz.func99, Tryz.ntmps99
 go_wp2_with (fail)
 refine (JW.out _).mono ?_
 rintro e w1 ⟨rfl, hb1⟩
 have b5 := boxAt hb1 5 rfl
 have HB1 := Lib.hid ((HBOX.out _).trans (hb1.mono (HBOX.out _).size)); clear hb1
 cases J
 ·go_wp2
  go_ret
  exact ⟨ret_bool (by rw [HNO.out]; rfl), HB1.out⟩
 ·go_wp2_with (fail)
  refine (Words.name_at ar _ _ _ rfl HS5.out (HKW.out.below HB1.out)).mono ?_
  rintro e w2 ⟨rfl, hb2⟩
  have HB2 := Lib.hid (HB1.out.trans (hb2.mono HB1.out.size)); clear hb2
  cases hx : nameB ar
  all_goals
   have HX := Lib.hid hx
   clear hx
   go_wp2
   go_ret
   exact ⟨ret_bool (by rw [HNO.out, HX.out]; rfl), HB2.out⟩

end Term
end Go.Proofs.YtkfkpjngiffamaaGreatDoor
namespace Go.Proofs.YtkfkpjngiffamaaGreatDoor
open Go.RowKit
set_option linter.unusedVariables false
namespace Term
open Words (nameB exnB)

set_option maxRecDepth 100000 in
set_option maxHeartbeats 6400000 in
theorem fits_12 (op pl nn : Int) (nm ar ex : ByteArray) (p : Option Addr) (l c : Nat) (w : World) (hop : 0 ≤ op ∧ op ≤ 255) (hl : l ≤ maxLen) (hs4 : nm.size ≤ maxLen) (hs5 : ar.size ≤ maxLen) (hs6 : ex.size ≤ maxLen) (hkw : Words.KwLaid w) :
  Calls Tryz.prog 99 #[.agg #[.int .u8 12, .int .u8 op, .int .i64 pl, .int .i64 nn, .string nm, .string ar, .string ex, .slice p l c]] w fun e w' => e = .returned (.bool (nodeB ⟨12, op, pl, nn, nm, ar, ex⟩ l)) ∧ Below w.heap.size w w' := by
 have hn := node_is12 op pl nn nm ar ex l
 have hj := fun W => just_walk ⟨12, op, pl, nn, nm, ar, ex⟩ ⟨0, 0, 0, 0, nm, ⟨#[]⟩, ⟨#[]⟩⟩ p l c 2 W hl
 have hbox : ∀ O : Obj, Below w.heap.size w (w.alloc O) := fun O => (Below.refl _ _).alloc (Nat.le_refl _) O
 generalize hJ : justB ⟨12, op, pl, nn, nm, ar, ex⟩ ⟨0, 0, 0, 0, nm, ⟨#[]⟩, ⟨#[]⟩⟩ l 2 = J at *
 have HNO := Lib.hid hn; have HBOX := Lib.hid hbox; have JW := Lib.hid hj; have HKW := Lib.hid hkw; have HS4 := Lib.hid hs4; have HS5 := Lib.hid hs5; have HS6 := Lib.hid hs6; have HJ := Lib.hid hJ
 clear hn hbox hj hkw hs4 hs5 hs6 hl hJ
 go_enter Tryz.func99, Tryz.ntmps99
 go_wp2_with (fail)
 refine (JW.out _).mono ?_
 rintro e w1 ⟨rfl, hb1⟩
 have b4 := boxAt hb1 4 rfl
 have HB1 := Lib.hid ((HBOX.out _).trans (hb1.mono (HBOX.out _).size)); clear hb1
 cases J
 ·go_wp2
  go_ret
  exact ⟨ret_bool (by rw [HNO.out]; rfl), HB1.out⟩
 ·go_wp2_with (fail)
  refine (Words.name_at nm _ _ _ rfl HS4.out (HKW.out.below HB1.out)).mono ?_
  rintro e w2 ⟨rfl, hb2⟩
  have HB2 := Lib.hid (HB1.out.trans (hb2.mono HB1.out.size)); clear hb2
  cases hx : nameB nm
  all_goals
   have HX := Lib.hid hx
   clear hx
   go_wp2
   go_ret
   exact ⟨ret_bool (by rw [HNO.out, HX.out]; rfl), HB2.out⟩

set_option maxRecDepth 100000 in
set_option maxHeartbeats 6400000 in
theorem fits_13 (op pl nn : Int) (nm ar ex : ByteArray) (p : Option Addr) (l c : Nat) (w : World) (hop : 0 ≤ op ∧ op ≤ 255) (hl : l ≤ maxLen) (hs4 : nm.size ≤ maxLen) (hs5 : ar.size ≤ maxLen) (hs6 : ex.size ≤ maxLen) (hkw : Words.KwLaid w) :
  Calls Tryz.prog 99 #[.agg #[.int .u8 13, .int .u8 op, .int .i64 pl, .int .i64 nn, .string nm, .string ar, .string ex, .slice p l c]] w fun e w' => e = .returned (.bool (nodeB ⟨13, op, pl, nn, nm, ar, ex⟩ l)) ∧ Below w.heap.size w w' := by
 have hn := node_is13 op pl nn nm ar ex l
 have hj := fun W => just_walk ⟨13, op, pl, nn, nm, ar, ex⟩ ⟨0, 0, 0, 0, nm, ar, ⟨#[]⟩⟩ p l c 2 W hl
 have hbox : ∀ O : Obj, Below w.heap.size w (w.alloc O) := fun O => (Below.refl _ _).alloc (Nat.le_refl _) O
 generalize hJ : justB ⟨13, op, pl, nn, nm, ar, ex⟩ ⟨0, 0, 0, 0, nm, ar, ⟨#[]⟩⟩ l 2 = J at *
 have HNO := Lib.hid hn; have HBOX := Lib.hid hbox; have JW := Lib.hid hj; have HKW := Lib.hid hkw; have HS4 := Lib.hid hs4; have HS5 := Lib.hid hs5; have HS6 := Lib.hid hs6; have HJ := Lib.hid hJ
 clear hn hbox hj hkw hs4 hs5 hs6 hl hJ
 go_enter Tryz.func99, Tryz.ntmps99
 go_wp2_with (fail)
 refine (JW.out _).mono ?_
 rintro e w1 ⟨rfl, hb1⟩
 have b4 := boxAt hb1 4 rfl
 have b5 := boxAt hb1 5 rfl
 have HB1 := Lib.hid ((HBOX.out _).trans (hb1.mono (HBOX.out _).size)); clear hb1
 cases J
 ·go_wp2
  go_ret
  exact ⟨ret_bool (by rw [HNO.out]; rfl), HB1.out⟩
 ·go_wp2_with (fail)
  refine (name_two nm ar _ _ HS4.out HS5.out (HKW.out.below HB1.out)).mono ?_
  rintro e w2 ⟨rfl, hb2⟩
  have HB2 := Lib.hid (HB1.out.trans (hb2.mono HB1.out.size)); clear hb2
  cases hx : (nameB nm && nameB ar)
  all_goals
   have HX := Lib.hid hx
   clear hx
   go_wp2
   go_ret
   exact ⟨ret_bool (by rw [HNO.out, HX.out]; rfl), HB2.out⟩

set_option maxRecDepth 100000 in
set_option maxHeartbeats 6400000 in
theorem fits_14 (op pl nn : Int) (nm ar ex : ByteArray) (p : Option Addr) (l c : Nat) (w : World) (hop : 0 ≤ op ∧ op ≤ 255) (hl : l ≤ maxLen) (hs4 : nm.size ≤ maxLen) (hs5 : ar.size ≤ maxLen) (hs6 : ex.size ≤ maxLen) (hkw : Words.KwLaid w) :
  Calls Tryz.prog 99 #[.agg #[.int .u8 14, .int .u8 op, .int .i64 pl, .int .i64 nn, .string nm, .string ar, .string ex, .slice p l c]] w fun e w' => e = .returned (.bool (nodeB ⟨14, op, pl, nn, nm, ar, ex⟩ l)) ∧ Below w.heap.size w w' := by
 have hn := node_is14 op pl nn nm ar ex l
 have hj := fun W => just_walk ⟨14, op, pl, nn, nm, ar, ex⟩ ⟨0, 0, 0, 0, ⟨#[]⟩, ⟨#[]⟩, ⟨#[]⟩⟩ p l c 3 W hl
 have hbox : ∀ O : Obj, Below w.heap.size w (w.alloc O) := fun O => (Below.refl _ _).alloc (Nat.le_refl _) O
 generalize hJ : justB ⟨14, op, pl, nn, nm, ar, ex⟩ ⟨0, 0, 0, 0, ⟨#[]⟩, ⟨#[]⟩, ⟨#[]⟩⟩ l 3 = J at *
 have HNO := Lib.hid hn; have HBOX := Lib.hid hbox; have JW := Lib.hid hj; have HKW := Lib.hid hkw; have HS4 := Lib.hid hs4; have HS5 := Lib.hid hs5; have HS6 := Lib.hid hs6; have HJ := Lib.hid hJ
 clear hn hbox hj hkw hs4 hs5 hs6 hl hJ
 go_enter Tryz.func99, Tryz.ntmps99
 go_wp2_with (fail)
 refine (JW.out _).mono ?_
 rintro e w1 ⟨rfl, hb1⟩
 have HB1 := Lib.hid ((HBOX.out _).trans (hb1.mono (HBOX.out _).size)); clear hb1
 cases J
 ·go_wp2
  go_ret
  exact ⟨ret_bool (by rw [HNO.out]), HB1.out⟩
 ·go_wp2
  go_ret
  exact ⟨ret_bool (by rw [HNO.out]), HB1.out⟩

end Term
end Go.Proofs.YtkfkpjngiffamaaGreatDoor
namespace Go.Proofs.YtkfkpjngiffamaaGreatDoor
open Go.RowKit
set_option linter.unusedVariables false
namespace Term
open Words (nameB exnB)

set_option maxRecDepth 100000 in
set_option maxHeartbeats 6400000 in
theorem fits_15 (op pl nn : Int) (nm ar ex : ByteArray) (p : Option Addr) (l c : Nat) (w : World) (hop : 0 ≤ op ∧ op ≤ 255) (hl : l ≤ maxLen) (hs4 : nm.size ≤ maxLen) (hs5 : ar.size ≤ maxLen) (hs6 : ex.size ≤ maxLen) (hkw : Words.KwLaid w) :
  Calls Tryz.prog 99 #[.agg #[.int .u8 15, .int .u8 op, .int .i64 pl, .int .i64 nn, .string nm, .string ar, .string ex, .slice p l c]] w fun e w' => e = .returned (.bool (nodeB ⟨15, op, pl, nn, nm, ar, ex⟩ l)) ∧ Below w.heap.size w w' := by
 have hn := node_is15 op pl nn nm ar ex l
 have hj := fun W => just_walk ⟨15, op, pl, nn, nm, ar, ex⟩ ⟨0, 0, 0, 0, ⟨#[]⟩, ⟨#[]⟩, ex⟩ p l c 1 W hl
 have hbox : ∀ O : Obj, Below w.heap.size w (w.alloc O) := fun O => (Below.refl _ _).alloc (Nat.le_refl _) O
 generalize hJ : justB ⟨15, op, pl, nn, nm, ar, ex⟩ ⟨0, 0, 0, 0, ⟨#[]⟩, ⟨#[]⟩, ex⟩ l 1 = J at *
 have HNO := Lib.hid hn; have HBOX := Lib.hid hbox; have JW := Lib.hid hj; have HKW := Lib.hid hkw; have HS4 := Lib.hid hs4; have HS5 := Lib.hid hs5; have HS6 := Lib.hid hs6; have HJ := Lib.hid hJ
 clear hn hbox hj hkw hs4 hs5 hs6 hl hJ
 go_enter Tryz.func99, Tryz.ntmps99
 go_wp2_with (fail)
 refine (JW.out _).mono ?_
 rintro e w1 ⟨rfl, hb1⟩
 have b6 := boxAt hb1 6 rfl
 have HB1 := Lib.hid ((HBOX.out _).trans (hb1.mono (HBOX.out _).size)); clear hb1
 cases J
 ·go_wp2
  go_ret
  exact ⟨ret_bool (by rw [HNO.out]; rfl), HB1.out⟩
 ·go_wp2_with (fail)
  refine (Words.exn_at ex _ _ _ rfl HS6.out).mono ?_
  rintro e w2 ⟨rfl, hb2⟩
  have HB2 := Lib.hid (HB1.out.trans (hb2.mono HB1.out.size)); clear hb2
  cases hx : exnB ex
  all_goals
   have HX := Lib.hid hx
   clear hx
   go_wp2
   go_ret
   exact ⟨ret_bool (by rw [HNO.out, HX.out]; rfl), HB2.out⟩

set_option maxRecDepth 100000 in
set_option maxHeartbeats 6400000 in
theorem fits_16 (op pl nn : Int) (nm ar ex : ByteArray) (p : Option Addr) (l c : Nat) (w : World) (hop : 0 ≤ op ∧ op ≤ 255) (hl : l ≤ maxLen) (hs4 : nm.size ≤ maxLen) (hs5 : ar.size ≤ maxLen) (hs6 : ex.size ≤ maxLen) (hkw : Words.KwLaid w) :
  Calls Tryz.prog 99 #[.agg #[.int .u8 16, .int .u8 op, .int .i64 pl, .int .i64 nn, .string nm, .string ar, .string ex, .slice p l c]] w fun e w' => e = .returned (.bool (nodeB ⟨16, op, pl, nn, nm, ar, ex⟩ l)) ∧ Below w.heap.size w w' := by
 have hn := node_is16 op pl nn nm ar ex l
 have hj := fun W => just_walk ⟨16, op, pl, nn, nm, ar, ex⟩ ⟨0, 0, 0, 0, ⟨#[]⟩, ar, ex⟩ p l c 2 W hl
 have hbox : ∀ O : Obj, Below w.heap.size w (w.alloc O) := fun O => (Below.refl _ _).alloc (Nat.le_refl _) O
 generalize hJ : justB ⟨16, op, pl, nn, nm, ar, ex⟩ ⟨0, 0, 0, 0, ⟨#[]⟩, ar, ex⟩ l 2 = J at *
 have HNO := Lib.hid hn; have HBOX := Lib.hid hbox; have JW := Lib.hid hj; have HKW := Lib.hid hkw; have HS4 := Lib.hid hs4; have HS5 := Lib.hid hs5; have HS6 := Lib.hid hs6; have HJ := Lib.hid hJ
 clear hn hbox hj hkw hs4 hs5 hs6 hl hJ
 go_enter Tryz.func99, Tryz.ntmps99
 go_wp2_with (fail)
 refine (JW.out _).mono ?_
 rintro e w1 ⟨rfl, hb1⟩
 have b5 := boxAt hb1 5 rfl
 have b6 := boxAt hb1 6 rfl
 have HB1 := Lib.hid ((HBOX.out _).trans (hb1.mono (HBOX.out _).size)); clear hb1
 cases J
 ·go_wp2
  go_ret
  exact ⟨ret_bool (by rw [HNO.out]; rfl), HB1.out⟩
 ·go_wp2_with (fail)
  refine (Words.exn_at ex _ _ _ rfl HS6.out).mono ?_
  rintro e w2 ⟨rfl, hb2⟩
  have hlt := World.block_lt_of_cell? w1 _ b5
  have d5 := (hb2.cell (p := ⟨w.heap.size, 5, none⟩) hlt).trans b5
  have HB2 := Lib.hid (HB1.out.trans (hb2.mono HB1.out.size)); clear hb2 hlt b5 b6
  cases hx : exnB ex
  ·have HX := Lib.hid hx
   clear hx
   go_wp2
   go_ret
   exact ⟨ret_bool (by rw [HNO.out, HX.out]; rfl), HB2.out⟩
  ·have HX := Lib.hid hx
   clear hx
   go_wp2_with (fail)
   refine (Words.name_at ar _ _ _ rfl HS5.out (HKW.out.below HB2.out)).mono ?_
   rintro e w3 ⟨rfl, hb3⟩
   have HB3 := Lib.hid (HB2.out.trans (hb3.mono HB2.out.size)); clear hb3
   cases hy : nameB ar
   all_goals
    have HY := Lib.hid hy
    clear hy
    go_wp2
    go_ret
    exact ⟨ret_bool (by rw [HNO.out, HX.out, HY.out]; rfl), HB3.out⟩

set_option maxRecDepth 100000 in
set_option maxHeartbeats 6400000 in
theorem fits_other (k op pl nn : Int) (nm ar ex : ByteArray) (p : Option Addr) (l c : Nat) (w : World) (hk : k < 1 ∨ 16 < k) :
  Calls Tryz.prog 99 #[.agg #[.int .u8 k, .int .u8 op, .int .i64 pl, .int .i64 nn, .string nm, .string ar, .string ex, .slice p l c]] w fun e w' => e = .returned (.bool (nodeB ⟨k, op, pl, nn, nm, ar, ex⟩ l)) ∧ Below w.heap.size w w' := by
 have hn := node_none hk op pl nn nm ar ex l
 have hbox : ∀ O : Obj, Below w.heap.size w (w.alloc O) := fun O => (Below.refl _ _).alloc (Nat.le_refl _) O
 have hne : ∀ v : Int, 1 ≤ v → v ≤ 16 → (k == v) = false := fun v h2 h3 => by rw [beq_eq_false_iff_ne]; omega
 have e1 := hne 1 (by omega) (by omega)
 have e2 := hne 2 (by omega) (by omega)
 have e3 := hne 3 (by omega) (by omega)
 have e4 := hne 4 (by omega) (by omega)
 have e5 := hne 5 (by omega) (by omega)
 have e6 := hne 6 (by omega) (by omega)
 have e7 := hne 7 (by omega) (by omega)
 have e8 := hne 8 (by omega) (by omega)
 have e9 := hne 9 (by omega) (by omega)
 have e10 := hne 10 (by omega) (by omega)
 have e11 := hne 11 (by omega) (by omega)
 have e12 := hne 12 (by omega) (by omega)
 have e13 := hne 13 (by omega) (by omega)
 have e14 := hne 14 (by omega) (by omega)
 have e15 := hne 15 (by omega) (by omega)
 have e16 := hne 16 (by omega) (by omega)
 have HNO := Lib.hid hn; have HBOX := Lib.hid hbox
 clear hn hbox hne hk
 go_enter Tryz.func99, Tryz.ntmps99
 go_wp2
 go_ret
 exact ⟨ret_bool HNO.out.symm, HBOX.out _⟩

end Term
end Go.Proofs.YtkfkpjngiffamaaGreatDoor
namespace Go.Proofs.YtkfkpjngiffamaaGreatDoor
open Go.RowKit
set_option linter.unusedVariables false
namespace Term
open Words (nameB exnB)

theorem fits_walk' (h : Hd) (p : Option Addr) (l c : Nat) (w : World) (ho : HdOk h) (hl : l ≤ maxLen) (hkw : Words.KwLaid w) :
  Calls Tryz.prog 99 #[.agg #[.int .u8 h.k, .int .u8 h.op, .int .i64 h.pl, .int .i64 h.n, .string h.name, .string h.arg, .string h.exn, .slice p l c]] w fun e w' => e = .returned (.bool (nodeB h l)) ∧ Below w.heap.size w w' := by
 obtain ⟨k, op, pl, nn, nm, ar, ex⟩ := h
 obtain ⟨h1, h2, h3, h4, h5, h6, h7⟩ := ho
 by_cases hk : 1 ≤ k ∧ k ≤ 16
 ·have hh : k = 1 ∨ k = 2 ∨ k = 3 ∨ k = 4 ∨ k = 5 ∨ k = 6 ∨ k = 7 ∨ k = 8 ∨ k = 9 ∨ k = 10 ∨ k = 11 ∨ k = 12 ∨ k = 13 ∨ k = 14 ∨ k = 15 ∨ k = 16 := by omega
  clear hk
  rcases hh with rfl | rfl | rfl | rfl | rfl | rfl | rfl | rfl | rfl | rfl | rfl | rfl | rfl | rfl | rfl | rfl
  ·exact fits_1 op pl nn nm ar ex p l c w h2 hl h5 h6 h7 hkw
  ·exact fits_2 op pl nn nm ar ex p l c w h2 hl h5 h6 h7 hkw
  ·exact fits_3 op pl nn nm ar ex p l c w h2 hl h5 h6 h7 hkw
  ·exact fits_4 op pl nn nm ar ex p l c w h2 hl h5 h6 h7 hkw
  ·exact fits_5 op pl nn nm ar ex p l c w h2 hl h5 h6 h7 hkw
  ·exact fits_6 op pl nn nm ar ex p l c w h2 hl h5 h6 h7 hkw
  ·exact fits_7 op pl nn nm ar ex p l c w h2 hl h5 h6 h7 hkw
  ·exact fits_8 op pl nn nm ar ex p l c w h2 hl h5 h6 h7 hkw
  ·exact fits_9 op pl nn nm ar ex p l c w h2 hl h5 h6 h7 hkw
  ·exact fits_10 op pl nn nm ar ex p l c w h2 hl h5 h6 h7 hkw
  ·exact fits_11 op pl nn nm ar ex p l c w h2 hl h5 h6 h7 hkw
  ·exact fits_12 op pl nn nm ar ex p l c w h2 hl h5 h6 h7 hkw
  ·exact fits_13 op pl nn nm ar ex p l c w h2 hl h5 h6 h7 hkw
  ·exact fits_14 op pl nn nm ar ex p l c w h2 hl h5 h6 h7 hkw
  ·exact fits_15 op pl nn nm ar ex p l c w h2 hl h5 h6 h7 hkw
  ·exact fits_16 op pl nn nm ar ex p l c w h2 hl h5 h6 h7 hkw
 ·exact fits_other k op pl nn nm ar ex p l c w (by omega)
end Term
end Go.Proofs.YtkfkpjngiffamaaGreatDoor
namespace Go.Proofs.YtkfkpjngiffamaaGreatDoor
open Go.RowKit
set_option linter.unusedVariables false
namespace Term

def MayI (w0 : World) (N : Nat) (r : Nat) (s : Int) (W : World) : Prop := Reads w0 W ∧ (∀ a v, w0.cell? a = some v → a.block ≠ N) ∧ W.heap[N]? = some (.cells #[.int .i64 s] 3 (0, 0)) ∧ 0 ≤ s ∧ s ≤ 4000
theorem MayI.goes {w0 : World} {N : Nat} : Goes w0 N (MayI w0 N) where
 base := fun r s W k => k.1
 has := fun r s W k => lt_of_block k.2.2.1
 keep := fun r s W W' k hb => ⟨k.1.trans (Reads.of_below hb), k.2.1, (hb.block N (lt_of_block k.2.2.1)).trans k.2.2.1, k.2.2.2⟩
 less := fun r r' s W k hr => k
def mayB (s : Int) (t : Tm) : Bool := decide (0 ≤ s - 1) && nodeB t.h t.ks.length
def mayS (s : Int) (_ : Tm) : Int := s - 1
theorem fo_may : ∀ m : Nat, (∀ (t : Tm) (s : Int), wt t ≤ m → 0 ≤ s → (foT mayB mayS t s).1 = (decide ((wt t : Int) ≤ s) && okT t) ∧ ((foT mayB mayS t s).1 = true → (foT mayB mayS t s).2 = s - wt t)) ∧
  (∀ (ts : List Tm) (s : Int), wts ts ≤ m → 0 ≤ s → (foK mayB mayS ts s).1 = (decide ((wts ts : Int) ≤ s) && okK ts) ∧ ((foK mayB mayS ts s).1 = true → (foK mayB mayS ts s).2 = s - wts ts)) := by
 intro m
 induction m with
 | zero =>
  refine ⟨fun t s h => by have := wt_pos t; omega, fun ts s h hs => ?_⟩
  cases ts with
  | nil => rw [foK_nil, wts_nil, okK_nil]; simp; omega
  | cons t ts => rw [wts_cons] at h; have := wt_pos t; omega
 | succ m ih =>
  have hT : ∀ (t : Tm) (s : Int), wt t ≤ m + 1 → 0 ≤ s → (foT mayB mayS t s).1 = (decide ((wt t : Int) ≤ s) && okT t) ∧ ((foT mayB mayS t s).1 = true → (foT mayB mayS t s).2 = s - wt t) := by
   intro t s h hs
   have hk := wt_ks t
   rw [foT_eq, okT_eq]
   have hb : mayB s t = (decide (0 ≤ s - 1) && nodeB t.h t.ks.length) := rfl
   by_cases h0 : 0 ≤ s - 1
   ·rw [decide_eq_true h0, Bool.true_and] at hb
    rw [hb]
    cases hn : nodeB t.h t.ks.length
    ·simp
    ·obtain ⟨h1, h2⟩ := ih.2 t.ks (mayS s t) (by omega) (by unfold mayS; omega)
     rw [if_pos rfl]
     refine ⟨?_, fun h => ?_⟩
     ·rw [h1, Bool.true_and]
      congr 1
      rw [decide_eq_decide]
      unfold mayS
      omega
     ·rw [h2 h]
      unfold mayS
      omega
   ·rw [decide_eq_false h0, Bool.false_and] at hb
    rw [hb, if_neg Bool.false_ne_true]
    have : decide ((wt t : Int) ≤ s) = false := decide_eq_false (by omega)
    rw [this]
    simp
  refine ⟨hT, fun ts => ?_⟩
  induction ts with
  | nil => intro s _ hs; rw [foK_nil, wts_nil, okK_nil]; simp; omega
  | cons t ts ihs =>
   intro s h hs
   rw [wts_cons] at h ⊢
   rw [foK_cons, okK_cons]
   obtain ⟨h1, h2⟩ := hT t s (by omega) hs
   cases hh : (foT mayB mayS t s).1
   ·rw [hh] at h1
    rw [if_neg Bool.false_ne_true]
    refine ⟨?_, fun h => by cases h⟩
    by_cases hle : (wt t : Int) ≤ s
    ·rw [decide_eq_true hle, Bool.true_and] at h1
     rw [← h1]
     simp
    ·rw [decide_eq_false (by omega : ¬ ((wt t + wts ts : Nat) : Int) ≤ s), Bool.false_and]
   ·rw [if_pos rfl]
    have h3 := h2 hh
    rw [hh] at h1
    have h4 : (wt t : Int) ≤ s ∧ okT t = true := by simpa using h1.symm
    obtain ⟨h5, h6⟩ := ihs (foT mayB mayS t s).2 (by omega) (by omega)
    refine ⟨?_, fun h => ?_⟩
    ·rw [h5, h4.2, Bool.true_and]
     congr 1
     rw [decide_eq_decide, h3]
     omega
    ·rw [h6 h, h3]
     omega
theorem fo_mayT (t : Tm) : (foK mayB mayS [t] 4000).1 = mayT t := by
 rw [((fo_may (wts [t])).2 [t] 4000 (Nat.le_refl _) (by omega)).1, okK_cons, okK_nil, wts_cons, wts_nil, Bool.and_true]
 unfold mayT
 congr 1
 rw [decide_eq_decide]
 omega

theorem reads_set {w0 W : World} {N : Nat} {u : Value} (h : Reads w0 W) (hn : ∀ a v, w0.cell? a = some v → a.block ≠ N) : Reads w0 (W.setCell ⟨N, 0, none⟩ u) := fun a v hv => by
 rw [World.cell?_of_block (w := W) (Below.heap_setCell W ⟨N, 0, none⟩ u a.block (hn a v hv))]
 exact h a v hv

set_option maxRecDepth 10000 in
set_option maxHeartbeats 3200000 in
theorem may1_walk (w0 : World) (N : Nat) (hkw : Words.KwLaid w0) : Steps 98 mayB mayS w0 N N (MayI w0 N) := by
 intro r s W t h p l c hi hT
 obtain ⟨hb, hn, hh, hs0, hs1⟩ := hi
 have he : mayB s t = (decide (0 ≤ s - 1) && nodeB h l) := by unfold mayB; rw [hT.head, hT.len]
 have hf := fun W hk => fits_walk' h p l c W hT.ok (Nat.le_trans hT.cap.1 hT.cap.2) hk
 obtain ⟨k, op, pl, nn, nm, ar, ex⟩ := h
 have cN := cell_of_one hh
 have fN := free_of_one hh
 have hNl := lt_of_block hh
 have hmid : ∀ O : Obj, (Reads w0 ((W.setCell ⟨N, 0, none⟩ (.int .i64 (s - 1))).alloc O)) ∧ Words.KwLaid ((W.setCell ⟨N, 0, none⟩ (.int .i64 (s - 1))).alloc O) ∧ ((W.setCell ⟨N, 0, none⟩ (.int .i64 (s - 1))).alloc O).heap[N]? = some (.cells #[.int .i64 (s - 1)] 3 (0, 0)) ∧ Stays N W ((W.setCell ⟨N, 0, none⟩ (.int .i64 (s - 1))).alloc O) := fun O => by
  have hb1 : Below (W.setCell ⟨N, 0, none⟩ (.int .i64 (s - 1))).heap.size (W.setCell ⟨N, 0, none⟩ (.int .i64 (s - 1))) ((W.setCell ⟨N, 0, none⟩ (.int .i64 (s - 1))).alloc O) := (Below.refl _ _).alloc (Nat.le_refl _) O
  have ho := one_setCell (u := .int .i64 (s - 1)) hh
  have hr := (reads_set (u := .int .i64 (s - 1)) hb hn).trans (Reads.of_below hb1)
  exact ⟨hr, fun k hk => hr _ _ (hkw k hk), (hb1.block N (lt_of_block ho)).trans ho, ((Stays.refl N W).set _).alloc O⟩
 have HM := Lib.hid hmid; have HE := Lib.hid he; have HF := Lib.hid hf; have HN := Lib.hid hn
 clear hmid hb hh hT he hf hn hkw
 by_cases h0 : 0 ≤ s - 1
 ·rw [decide_eq_true h0, Bool.true_and] at HE
  go_enter Tryz.func98, Tryz.ntmps98
  go_wp2_with (fail)
  refine (HF.out _ (HM.out _).2.1).mono ?_
  rintro e w1 ⟨rfl, hb1⟩
  have h1 := HM.out (.cells #[.int .u8 k, .int .u8 op, .int .i64 pl, .int .i64 nn, .string nm, .string ar, .string ex, .slice p l c] 89)
  have h2 : MayI w0 N r (mayS s t) w1 := MayI.goes.keep r _ _ _ ⟨h1.1, HN.out, h1.2.2.1, h0, by unfold mayS; omega⟩ hb1
  have h3 : Stays N W w1 := h1.2.2.2.trans (Stays.of_below hb1)
  have H2 := Lib.hid h2; have H3 := Lib.hid h3
  clear h1 h2 h3 hb1
  cases hx : nodeB ⟨k, op, pl, nn, nm, ar, ex⟩ l
  all_goals
   have HX := Lib.hid hx
   clear hx
   go_wp2
   go_ret
   exact ⟨ret_bool (by rw [HE.out, HX.out]), (fun _ => H2.out), H3.out⟩
 ·have hd : decide (0 ≤ s - 1) = false := decide_eq_false h0
  have hf : mayB s t = false := by rw [HE.out, hd, Bool.false_and]
  have HF := Lib.hid hf
  clear hf
  go_enter Tryz.func98, Tryz.ntmps98
  go_wp2
  go_ret
  exact ⟨ret_bool HF.out.symm, (fun h => by rw [HF.out] at h; cases h), (HM.out _).2.2.2⟩
theorem may_lay {w : World} {h : Hd} {p : Option Addr} {l c : Nat} {t : Tm} (hT : TmIs w h p l c t) (O : Obj) (x : Value) (ty ty' : TypeId) :
  ∃ w0 : World, Kids w0 (some ⟨w.heap.size + 2, 0, none⟩) [t] ∧ Below w.heap.size w w0 ∧ Reads w0 (((w.alloc O).alloc (.cells #[x] ty)).alloc (.cells (tcells h p l c).toArray ty')) ∧ ∀ a v, w0.cell? a = some v → a.block ≠ w.heap.size + 1 := by
 have hz1 : (w.alloc O).heap.size = w.heap.size + 1 := by simp
 have hz2 : ∀ Q : Obj, ((w.alloc O).alloc Q).heap.size = w.heap.size + 2 := fun Q => by simp
 have hb : Below w.heap.size w (((w.alloc O).alloc (.cells #[] ty)).alloc (.cells (tcells h p l c).toArray ty')) := (((Below.refl _ _).alloc (Nat.le_refl _) _).alloc (by simp) _).alloc (by simp; omega) _
 refine ⟨((w.alloc O).alloc (.cells #[] ty)).alloc (.cells (tcells h p l c).toArray ty'), ?_, hb, ?_, ?_⟩
 ·refine .atkids _ 0 [t] (fun _ => p) (fun _ => c) (fun i hi => ?_) (fun i hi j v hv => ?_) (fun i hi => ?_) (fun i hi => ?_)
  all_goals
   have hi0 : i = 0 := by simp at hi; omega
   subst hi0
   have hg : tget [t] 0 = t := rfl
   try rw [hg]
  ·rw [hT.head]; exact hT.ok
  ·rw [hg, hT.head, hT.len] at hv
   rw [← hz2 (.cells #[] ty), show (0 + 0 * 8 + j) = j from by omega, World.cell?_alloc_mark]
   simpa using hv
  ·rw [hT.len]; exact hT.cap
  ·exact hT.kids.stay hb
 ·intro a v hv
  have hlt := World.block_lt_of_cell? _ _ hv
  have hne : a.block ≠ w.heap.size + 1 := by
   intro e
   have h1 : (((w.alloc O).alloc (.cells #[] ty)).alloc (.cells (tcells h p l c).toArray ty')).heap[a.block]? = some (.cells #[] ty) := by
    rw [e, Below.heap_alloc _ _ _ (by rw [hz2]; omega), ← hz1]
    exact heap_alloc_new _ _
   unfold World.cell? at hv
   rw [h1] at hv
   simp at hv
  rw [← hv]
  apply World.cell?_of_block
  by_cases h2 : a.block = w.heap.size + 2
  ·have e1 := heap_alloc_new ((w.alloc O).alloc (.cells #[x] ty)) (.cells (tcells h p l c).toArray ty')
   have e2 := heap_alloc_new ((w.alloc O).alloc (.cells #[] ty)) (.cells (tcells h p l c).toArray ty')
   rw [hz2] at e1 e2
   rw [h2, e1, e2]
  ·have h3 : a.block < w.heap.size + 1 := by simp at hlt; omega
   rw [Below.heap_alloc ((w.alloc O).alloc (.cells #[x] ty)) _ _ (by rw [hz2]; omega), Below.heap_alloc (w.alloc O) (.cells #[x] ty) _ (by rw [hz1]; omega), Below.heap_alloc ((w.alloc O).alloc (.cells #[] ty)) _ _ (by rw [hz2]; omega), Below.heap_alloc (w.alloc O) (.cells #[] ty) _ (by rw [hz1]; omega)]
 ·intro a v hv e
  have h1 : (((w.alloc O).alloc (.cells #[] ty)).alloc (.cells (tcells h p l c).toArray ty')).heap[a.block]? = some (.cells #[] ty) := by
   rw [e, Below.heap_alloc _ _ _ (by rw [hz2]; omega), ← hz1]
   exact heap_alloc_new _ _
  unfold World.cell? at hv
  rw [h1] at hv
  simp at hv

set_option maxRecDepth 10000 in
set_option maxHeartbeats 3200000 in
theorem may_walk (t : Tm) (h : Hd) (p : Option Addr) (l c : Nat) (w : World) (hT : TmIs w h p l c t) (hkw : Words.KwLaid w) :
  Calls Tryz.prog 81 #[.agg #[.int .u8 h.k, .int .u8 h.op, .int .i64 h.pl, .int .i64 h.n, .string h.name, .string h.arg, .string h.exn, .slice p l c]] w fun e w' => e = .returned (.bool (mayT t)) ∧ Below w.heap.size w w' := by
 have hlay := fun O => may_lay hT O (.int .i64 4000) 3 89
 have hm := fo_mayT t
 obtain ⟨k, op, pl, nn, nm, ar, ex⟩ := h
 have hbox : ∀ O O' O'' : Obj, Below w.heap.size w (((w.alloc O).alloc O').alloc O'') := fun O O' O'' => (((Below.refl _ _).alloc (Nat.le_refl _) O).alloc (by simp) O').alloc (by simp; omega) O''
 have HLAY := Lib.hid hlay; have HM := Lib.hid hm; have HBOX := Lib.hid hbox; have HKW := Lib.hid hkw
 clear hlay hm hbox hT hkw
 go_enter Tryz.func81, Tryz.ntmps81
 go_wp2_with (fail)
 obtain ⟨w0, hk, hb, hr, hn⟩ := HLAY.out (.cells #[.int .u8 k, .int .u8 op, .int .i64 pl, .int .i64 nn, .string nm, .string ar, .string ex, .slice p l c] 89)
 have hs : MayI w0 (w.heap.size + 1) (0 + wts [t]) 4000 (((w.alloc (.cells #[.int .u8 k, .int .u8 op, .int .i64 pl, .int .i64 nn, .string nm, .string ar, .string ex, .slice p l c] 89)).alloc (.cells #[.int .i64 4000] 3)).alloc (.cells (tcells ⟨k, op, pl, nn, nm, ar, ex⟩ p l c).toArray 89)) :=
  ⟨hr, hn, by rw [Below.heap_alloc _ _ _ (by simp)]; exact (show (w.alloc (.cells #[.int .u8 k, .int .u8 op, .int .i64 pl, .int .i64 nn, .string nm, .string ar, .string ex, .slice p l c] 89)).heap.size = w.heap.size + 1 by simp) ▸ heap_alloc_new _ _, by omega, by omega⟩
 refine (allMay_walk mayB mayS w0 (w.heap.size + 1) (w.heap.size + 1) (MayI w0 (w.heap.size + 1)) MayI.goes (may1_walk w0 (w.heap.size + 1) (HKW.out.below hb)) (wts [t]) [t] _ 1 1 0 4000 _ (Nat.le_refl _) rfl (by unfold maxLen; omega) hk hs).mono ?_
 rintro e w1 ⟨rfl, _, hs1⟩
 have HB := Lib.hid ((HBOX.out _ _ _).trans (hs1.below (B := w.heap.size) (by omega) (HBOX.out _ _ _).size))
 clear hs1 hs hr hn hk hb
 rw [HM.out]
 cases hx : mayT t
 all_goals
  have HX := Lib.hid hx
  clear hx
  go_wp2
  go_ret
  exact ⟨ret_bool HX.out.symm, HB.out⟩
end Term
end Go.Proofs.YtkfkpjngiffamaaGreatDoor
