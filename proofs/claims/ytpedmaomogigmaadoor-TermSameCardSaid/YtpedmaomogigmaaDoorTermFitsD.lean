/- The walk of the program's look at a node: the kinds 15, 16. -/
import Derived.Test.YtpedmaomogigmaaDoorTermFitsM
namespace Go.Proofs.YtpedmaomogigmaaDoor
open Go.RowKit
set_option linter.unusedVariables false
namespace Term
open Words (nameB exnB)

set_option maxRecDepth 100000 in
set_option maxHeartbeats 6400000 in
theorem fits_15 (op pl nn : Int) (nm ar ex : ByteArray) (p : Option Addr) (l c : Nat) (w : World) (hop : 0 ≤ op ∧ op ≤ 255) (hl : l ≤ maxLen) (hs4 : nm.size ≤ maxLen) (hs5 : ar.size ≤ maxLen) (hs6 : ex.size ≤ maxLen) (hkw : Words.KwLaid w) :
    Calls Tryd.prog 25 #[.agg #[.int .u8 15, .int .u8 op, .int .i64 pl, .int .i64 nn, .string nm, .string ar, .string ex, .slice p l c]] w fun e w' => e = .returned (.bool (nodeB ⟨15, op, pl, nn, nm, ar, ex⟩ l)) ∧ Below w.heap.size w w' := by
  have hn := node_is15 op pl nn nm ar ex l
  have hj := fun W => just_walk ⟨15, op, pl, nn, nm, ar, ex⟩ ⟨0, 0, 0, 0, ⟨#[]⟩, ⟨#[]⟩, ex⟩ p l c 1 W hl
  have hbox : ∀ O : Obj, Below w.heap.size w (w.alloc O) := fun O => (Below.refl _ _).alloc (Nat.le_refl _) O
  generalize hJ : justB ⟨15, op, pl, nn, nm, ar, ex⟩ ⟨0, 0, 0, 0, ⟨#[]⟩, ⟨#[]⟩, ex⟩ l 1 = J at *
  have HNO := Lib.hid hn; have HBOX := Lib.hid hbox; have JW := Lib.hid hj; have HKW := Lib.hid hkw; have HS4 := Lib.hid hs4; have HS5 := Lib.hid hs5; have HS6 := Lib.hid hs6; have HJ := Lib.hid hJ
  clear hn hbox hj hkw hs4 hs5 hs6 hl hJ
  go_enter Tryd.func25, Tryd.ntmps25
  go_wp2_with (fail)
  refine (JW.out _).mono ?_
  rintro e w1 ⟨rfl, hb1⟩
  have b6 := boxAt hb1 6 rfl
  have HB1 := Lib.hid ((HBOX.out _).trans (hb1.mono (HBOX.out _).size)); clear hb1
  cases J
  · go_wp2
    go_ret
    exact ⟨ret_bool (by rw [HNO.out]; rfl), HB1.out⟩
  · go_wp2_with (fail)
    refine (Words.exn_at ex _ _ _ rfl HS6.out).mono ?_
    rintro e w2 ⟨rfl, hb2⟩
    have HB2 := Lib.hid (HB1.out.trans (hb2.mono HB1.out.size)); clear hb2
    cases hx : exnB ex
    all_goals
      have HX := Lib.hid hx
      clear hx
      go_wp2
      go_ret
      exact ⟨ret_bool (by rw [HNO.out, HX.out]; rfl), HB2.out⟩

set_option maxRecDepth 100000 in
set_option maxHeartbeats 6400000 in
theorem fits_16 (op pl nn : Int) (nm ar ex : ByteArray) (p : Option Addr) (l c : Nat) (w : World) (hop : 0 ≤ op ∧ op ≤ 255) (hl : l ≤ maxLen) (hs4 : nm.size ≤ maxLen) (hs5 : ar.size ≤ maxLen) (hs6 : ex.size ≤ maxLen) (hkw : Words.KwLaid w) :
    Calls Tryd.prog 25 #[.agg #[.int .u8 16, .int .u8 op, .int .i64 pl, .int .i64 nn, .string nm, .string ar, .string ex, .slice p l c]] w fun e w' => e = .returned (.bool (nodeB ⟨16, op, pl, nn, nm, ar, ex⟩ l)) ∧ Below w.heap.size w w' := by
  have hn := node_is16 op pl nn nm ar ex l
  have hj := fun W => just_walk ⟨16, op, pl, nn, nm, ar, ex⟩ ⟨0, 0, 0, 0, ⟨#[]⟩, ar, ex⟩ p l c 2 W hl
  have hbox : ∀ O : Obj, Below w.heap.size w (w.alloc O) := fun O => (Below.refl _ _).alloc (Nat.le_refl _) O
  generalize hJ : justB ⟨16, op, pl, nn, nm, ar, ex⟩ ⟨0, 0, 0, 0, ⟨#[]⟩, ar, ex⟩ l 2 = J at *
  have HNO := Lib.hid hn; have HBOX := Lib.hid hbox; have JW := Lib.hid hj; have HKW := Lib.hid hkw; have HS4 := Lib.hid hs4; have HS5 := Lib.hid hs5; have HS6 := Lib.hid hs6; have HJ := Lib.hid hJ
  clear hn hbox hj hkw hs4 hs5 hs6 hl hJ
  go_enter Tryd.func25, Tryd.ntmps25
  go_wp2_with (fail)
  refine (JW.out _).mono ?_
  rintro e w1 ⟨rfl, hb1⟩
  have b5 := boxAt hb1 5 rfl
  have b6 := boxAt hb1 6 rfl
  have HB1 := Lib.hid ((HBOX.out _).trans (hb1.mono (HBOX.out _).size)); clear hb1
  cases J
  · go_wp2
    go_ret
    exact ⟨ret_bool (by rw [HNO.out]; rfl), HB1.out⟩
  · go_wp2_with (fail)
    refine (Words.exn_at ex _ _ _ rfl HS6.out).mono ?_
    rintro e w2 ⟨rfl, hb2⟩
    have hlt := World.block_lt_of_cell? w1 _ b5
    have d5 := (hb2.cell (p := ⟨w.heap.size, 5, none⟩) hlt).trans b5
    have HB2 := Lib.hid (HB1.out.trans (hb2.mono HB1.out.size)); clear hb2 hlt b5 b6
    cases hx : exnB ex
    · have HX := Lib.hid hx
      clear hx
      go_wp2
      go_ret
      exact ⟨ret_bool (by rw [HNO.out, HX.out]; rfl), HB2.out⟩
    · have HX := Lib.hid hx
      clear hx
      go_wp2_with (fail)
      refine (Words.name_at ar _ _ _ rfl HS5.out (HKW.out.below HB2.out)).mono ?_
      rintro e w3 ⟨rfl, hb3⟩
      have HB3 := Lib.hid (HB2.out.trans (hb3.mono HB2.out.size)); clear hb3
      cases hy : nameB ar
      all_goals
        have HY := Lib.hid hy
        clear hy
        go_wp2
        go_ret
        exact ⟨ret_bool (by rw [HNO.out, HX.out, HY.out]; rfl), HB3.out⟩

set_option maxRecDepth 100000 in
set_option maxHeartbeats 6400000 in
theorem fits_other (k op pl nn : Int) (nm ar ex : ByteArray) (p : Option Addr) (l c : Nat) (w : World) (hk : k < 1 ∨ 16 < k) :
    Calls Tryd.prog 25 #[.agg #[.int .u8 k, .int .u8 op, .int .i64 pl, .int .i64 nn, .string nm, .string ar, .string ex, .slice p l c]] w fun e w' => e = .returned (.bool (nodeB ⟨k, op, pl, nn, nm, ar, ex⟩ l)) ∧ Below w.heap.size w w' := by
  have hn := node_none hk op pl nn nm ar ex l
  have hbox : ∀ O : Obj, Below w.heap.size w (w.alloc O) := fun O => (Below.refl _ _).alloc (Nat.le_refl _) O
  have hne : ∀ v : Int, 1 ≤ v → v ≤ 16 → (k == v) = false := fun v h2 h3 => by rw [beq_eq_false_iff_ne]; omega
  have e1 := hne 1 (by omega) (by omega)
  have e2 := hne 2 (by omega) (by omega)
  have e3 := hne 3 (by omega) (by omega)
  have e4 := hne 4 (by omega) (by omega)
  have e5 := hne 5 (by omega) (by omega)
  have e6 := hne 6 (by omega) (by omega)
  have e7 := hne 7 (by omega) (by omega)
  have e8 := hne 8 (by omega) (by omega)
  have e9 := hne 9 (by omega) (by omega)
  have e10 := hne 10 (by omega) (by omega)
  have e11 := hne 11 (by omega) (by omega)
  have e12 := hne 12 (by omega) (by omega)
  have e13 := hne 13 (by omega) (by omega)
  have e14 := hne 14 (by omega) (by omega)
  have e15 := hne 15 (by omega) (by omega)
  have e16 := hne 16 (by omega) (by omega)
  have HNO := Lib.hid hn; have HBOX := Lib.hid hbox
  clear hn hbox hne hk
  go_enter Tryd.func25, Tryd.ntmps25
  go_wp2
  go_ret
  exact ⟨ret_bool HNO.out.symm, HBOX.out _⟩

end Term
end Go.Proofs.YtpedmaomogigmaaDoor
