/- The walks of the program's place, and of the document's. -/
import Derived.Test.YtoodlanmgboegaaCharsSpan2
import Derived.Lib.BytesEntry
import Derived.Laws.Externs
import Derived.Shelf.Bytes.SlCountOne
set_option linter.unusedVariables false
namespace Go.Proofs.Ytoodlanmgboegaa
open Go.RowKit
namespace Chars

set_option maxHeartbeats 400000 in
set_option maxRecDepth 100000 in
/-- bytes.Count of a line feed. -/
theorem count_walk (p : Option Addr) (n d : Nat) (xs : List Int) (b2 o2 d2 : Nat) (w : World) (hx : xs.length = n) (hr : Bytes xs) (hp : BytesAt w p xs) (hc2 : w.cell? ⟨b2, o2, none⟩ = some (.int .u8 10)) :
    Calls Try.prog 16 #[.slice p n d, .slice (some ⟨b2, o2, none⟩) 1 d2] w fun e w' => e = .returned (.int .i64 (xs.count 10 : Nat)) ∧ w = w' := by
  have hcb := count_bytes xs hr
  have hrun : (Extern.BytealgCount.count #[.slice p n d, .int .u8 10]).run Try.prog w = .ok (.int .i64 (xs.count 10 : Nat)) w := by
    cases p with
    | none =>
      rcases hp with rfl | ⟨b, o, h, _⟩
      · exact Lib.run_countNil w n d 10
      · cases h
    | some a =>
      rw [Lib.run_countAt w a n d xs hx (fun i hi => ?_) 10, hcb]
      rcases hp with rfl | ⟨b, o, h, hc⟩
      · simp at hx; omega
      · cases h
        have := hc i (by omega)
        unfold Addr.add
        split
        · simp_all
        · simpa using this
  clear hcb hp hr hx
  go_enter Try.func16, Try.ntmps16
  go_wp2
  rw [run_callFunc_extern Try.func24 (by kernel_rfl) (by kernel_rfl) (by kernel_rfl) (e := Extern.BytealgCount.count) (by kernel_rfl), hrun]
  simp only [Result.andThen]
  rw [Oper.upon_value]
  go_wp2
  go_ret
  exact ⟨rfl, rfl⟩

/-- What the library's search for the last line feed hands back: how far from the end the column goes. -/
theorem last_inner (p : Option Addr) (n d : Nat) (xs : List Int) (w : World) (hx : xs.length = n) (hn : n ≤ maxLen) (hp : BytesAt w p xs) :
    Calls Try.prog 26 #[.slice p n d, .int .u8 10] w fun e w' => e = .returned (.int .i64 ((n : Int) - (colN xs : Nat))) ∧ w = w' := by
  unfold maxLen at hn
  have HX := Lib.hid hx
  have HP := Lib.hid hp
  clear hx hp
  go_enter Try.func26, Try.ntmps26
  go_wp2
  go_loop [5] (fun i => ∃ k : Nat, k ≤ n ∧ i = .int .i64 ((k : Int) - 1) ∧ ∀ j, k ≤ j → j < n → el xs j ≠ 10) (fun i => (intOf i + 1).toNat)
  case atStart => exact ⟨n, by omega, rfl, fun j h1 h2 => by omega⟩
  case round =>
    obtain ⟨k, hk, rfl, hn⟩ := hrel
    have HN := Lib.hid hn
    clear hn
    cases k with
    | succ k =>
      have e1 : ((k + 1 : Nat) : Int) - 1 = (k : Int) := by omega
      obtain ⟨b, o, rfl, hc⟩ := HP.out.get k (by rw [HX.out]; omega)
      have hck := hc k (by rw [HX.out]; omega)
      clear hc
      by_cases he : el xs k = 10
      · have he' : (el xs k == 10) = true := by simpa using he
        have HE := Lib.hid he; clear he
        have hcol := col_tail xs k (by rw [HX.out]; omega) HE.out (n - k - 1) (by rw [HX.out]; omega) (fun j h1 h2 => HN.out j (by omega) (by omega))
        rw [show k + 1 + (n - k - 1) = n from by omega, List.take_of_length_le (by rw [HX.out]; omega)] at hcol
        have HC := Lib.hid hcol; clear hcol
        rw [e1]
        clear e1
        go_wp2
        go_ret
        refine ⟨ret_i64 ?_, rfl⟩
        rw [HC.out]; omega
      · have he' : (el xs k == 10) = false := by simpa using he
        have HE := Lib.hid he; clear he
        rw [e1]
        clear e1
        go_wp2
        go_round
        case rel =>
          refine ⟨k, by omega, rfl, fun j h1 h2 => ?_⟩
          by_cases hjk : j = k
          · rw [hjk]; exact HE.out
          · exact HN.out j (by omega) h2
        case measure => simp [intOf]
    | zero =>
      have e1 : ((0 : Nat) : Int) - 1 = -1 := rfl
      have hcol := col_none xs n (by rw [HX.out]; omega) (fun j hj => HN.out j (by omega) hj)
      rw [List.take_of_length_le (by rw [HX.out]; omega)] at hcol
      have HC := Lib.hid hcol; clear hcol
      rw [e1]
      clear e1
      go_wp2
      go_ret
      refine ⟨ret_i64 ?_, rfl⟩
      rw [HC.out]; omega
theorem last_walk (p : Option Addr) (n d : Nat) (xs : List Int) (w : World) (hx : xs.length = n) (hn : n ≤ maxLen) (hp : BytesAt w p xs) :
    Calls Try.prog 17 #[.slice p n d, .int .u8 10] w fun e w' => e = .returned (.int .i64 ((n : Int) - (colN xs : Nat))) ∧ w = w' := by
  have HX := Lib.hid hx
  have HP := Lib.hid hp
  clear hx hp
  go_enter Try.func17, Try.ntmps17
  go_wp2_with (fail)
  refine (last_inner p n d xs w HX.out hn HP.out).mono ?_
  rintro e w' ⟨rfl, rfl⟩
  go_wp2
  go_ret
  exact ⟨rfl, rfl⟩

theorem BytesAt.take {w : World} {p : Option Addr} {xs : List Int} (h : BytesAt w p xs) (k : Nat) : BytesAt w p (xs.take k) := by
  rcases h with rfl | ⟨b, o, hp, hc⟩
  · left; simp
  · refine .inr ⟨b, o, hp, fun i hi => ?_⟩
    have hi' : i < k ∧ i < xs.length := by simp at hi; omega
    rw [hc i hi'.2, List.getD_eq_getElem?_getD, List.getD_eq_getElem?_getD, List.getElem?_take, if_pos hi'.1]
theorem Bytes.take {xs : List Int} (h : Bytes xs) (k : Nat) : Bytes (xs.take k) := fun x hx => h x (List.mem_of_mem_take hx)

theorem ret_two {a b c d : Int} (h : a = c) (g : b = d) : Ending.returned (.tuple #[.int .i64 a, .int .i64 b]) = .returned (.tuple #[.int .i64 c, .int .i64 d]) := by rw [h, g]

set_option maxHeartbeats 400000 in
theorem place_walk (p : Option Addr) (n d : Nat) (xs : List Int) (a : Int) (w : World) (hx : xs.length = n) (hnd : n ≤ d) (hd : d ≤ maxLen) (hn : n ≤ 1000000000) (hp : BytesAt w p xs) (hr : Bytes xs) :
    Calls Try.prog 11 #[.slice p n d, .int .i64 a] w fun e w' => e = .returned (.tuple #[.int .i64 (lineI xs a), .int .i64 (colI xs a)]) ∧ Below w.heap.size w w' := by
  unfold maxLen at hd
  have hk := cl_eq xs n hx a
  have hkl := cl_le xs a
  rw [hx] at hkl
  generalize hcl : cl xs a = k at hk hkl
  have hlen : (xs.take k).length = k := by rw [List.length_take, hx]; omega
  have hl : lineI xs a = (lineN (xs.take k) : Nat) := by unfold lineI; rw [hcl]
  have hc : colI xs a = (colN (xs.take k) : Nat) := by unfold colI; rw [hcl]
  have b1 := line_le (xs.take k)
  have b2 := col_le (xs.take k)
  have hlc : lineN (xs.take k) = 1 + (xs.take k).count 10 := rfl
  have hb : Below w.heap.size w (w.alloc (.cells #[.int .u8 10] 5)) := (Below.refl _ _).alloc (Nat.le_refl _) _
  have hcw := count_walk p k d (xs.take k) w.heap.size 0 1 (w.alloc (.cells #[.int .u8 10] 5)) hlen (hr.take k) ((hp.take k).below hb) (by simp [go_sem])
  have hlw := last_walk p k d (xs.take k) (w.alloc (.cells #[.int .u8 10] 5)) hlen (by unfold maxLen; omega) ((hp.take k).below hb)
  generalize lineN (xs.take k) = ln at *
  generalize colN (xs.take k) = cn at *
  generalize (xs.take k).count 10 = ct at *
  rw [hlen] at b1 b2
  obtain ⟨b11, b12⟩ := b1
  obtain ⟨b21, b22⟩ := b2
  have HK := Lib.hid hk
  have HL := Lib.hid hl
  have HC := Lib.hid hc
  have HB := Lib.hid hb
  have HLC := Lib.hid hlc
  have HCW := Lib.hid hcw
  have HLW := Lib.hid hlw
  have hct : ct + 1 ≤ k + 1 := by omega
  have e1 : IntKind.i64.wrap (1 + (ct : Int)) = 1 + (ct : Int) := IntWalk.i64_in _ (by omega)
  clear hk hl hc hb hlc hcw hlw hp hr hx hcl hlen
  go_enter Try.func11, Try.ntmps11
  go_wp2_with (fail)
  simp only [HK.out, Int.toNat_natCast]
  refine HCW.out.mono ?_
  rintro e w' ⟨rfl, rfl⟩
  go_wp2_with (fail)
  refine HLW.out.mono ?_
  rintro e w' ⟨rfl, rfl⟩
  go_wp2
  go_ret2
  refine ⟨ret_two ?_ ?_, HB.out⟩
  · rw [HL.out]; have := HLC.out; omega
  · rw [HC.out]; omega

set_option maxHeartbeats 400000 in
theorem refPlace_walk (p : Option Addr) (n d : Nat) (xs : List Int) (a : Int) (w : World) (hx : xs.length = n) (hn : n ≤ 1000000000) (hp : BytesAt w p xs) :
    Calls Try.prog 12 #[.slice p n d, .int .i64 a] w fun e w' => e = .returned (.tuple #[.int .i64 (lineI xs a), .int .i64 (colI xs a)]) ∧ w = w' := by
  have HX := Lib.hid hx
  have HP := Lib.hid hp
  clear hx hp
  go_enter Try.func12, Try.ntmps12
  go_wp2
  go_loop [6, 7, 8] (fun l c i => ∃ k : Nat, k ≤ n ∧ (k : Int) ≤ max a 0 ∧ i = .int .i64 k ∧ l = .int .i64 (lineN (xs.take k) : Nat) ∧ c = .int .i64 (colN (xs.take k) : Nat)) (fun _ _ i => n - (intOf i).toNat)
  case atStart => exact ⟨0, by omega, by omega, rfl, rfl, rfl⟩
  case round =>
    obtain ⟨k, hk, hka, rfl, rfl, rfl⟩ := hrel
    have b1 := line_le (xs.take k)
    have b2 := col_le (xs.take k)
    have hlen : (xs.take k).length = k := by rw [List.length_take, HX.out]; omega
    rw [hlen] at b1 b2
    by_cases hlt : k < n ∧ (k : Int) < a
    · obtain ⟨hlt, hla⟩ := hlt
      obtain ⟨b, o, rfl, hc⟩ := HP.out.get k (by rw [HX.out]; exact hlt)
      have hck := hc k (by rw [HX.out]; exact hlt)
      have hls := line_snoc xs k (by rw [HX.out]; exact hlt)
      have hcs := col_snoc xs k (by rw [HX.out]; exact hlt)
      clear hc
      generalize lineN (xs.take k) = ln at *
      generalize colN (xs.take k) = cn at *
      have HLS := Lib.hid hls
      have HCS := Lib.hid hcs
      clear hls hcs hlen
      obtain ⟨b11, b12⟩ := b1
      obtain ⟨b21, b22⟩ := b2
      by_cases he : el xs k = 10
      · have he' : (el xs k == 10) = true := by simpa using he
        have HE := Lib.hid he; clear he
        go_wp2
        go_round
        case rel =>
          refine ⟨k + 1, by omega, by omega, by go_num, ?_, ?_⟩
          · rw [HLS.out, if_pos HE.out]; go_num
          · rw [HCS.out, if_pos HE.out]; rfl
        case measure => simp [intOf]; omega
      · have he' : (el xs k == 10) = false := by simpa using he
        have HE := Lib.hid he; clear he
        go_wp2
        go_round
        case rel =>
          refine ⟨k + 1, by omega, by omega, by go_num, ?_, ?_⟩
          · rw [HLS.out, if_neg HE.out]; rfl
          · rw [HCS.out, if_neg HE.out]; go_num
        case measure => simp [intOf]; omega
    · have hkc : cl xs a = k := by have := cl_eq xs n HX.out a; omega
      have hl : lineI xs a = (lineN (xs.take k) : Nat) := by unfold lineI; rw [hkc]
      have hc : colI xs a = (colN (xs.take k) : Nat) := by unfold colI; rw [hkc]
      have HL := Lib.hid hl
      have HC := Lib.hid hc
      clear hl hc hlen
      by_cases hlt2 : k < n
      · have hla : decide ((k : Int) < a) = false := by simp; omega
        have HN := Lib.hid hlt
        clear hlt hkc
        go_wp2
        go_ret2
        exact ⟨ret_two HL.out.symm HC.out.symm, rfl⟩
      · have HN := Lib.hid hlt
        clear hlt hkc
        go_wp2
        go_ret2
        exact ⟨ret_two HL.out.symm HC.out.symm, rfl⟩
end Chars
end Go.Proofs.Ytoodlanmgboegaa
