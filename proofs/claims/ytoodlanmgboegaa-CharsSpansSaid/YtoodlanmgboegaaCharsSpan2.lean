/- The walks of the program's span, whole, of the document's, and of the example. -/
import Derived.Test.YtoodlanmgboegaaCharsSpan
import Derived.Lib.SlBytesConst
namespace Go.Proofs.Ytoodlanmgboegaa
open Go.RowKit
namespace Chars

/-- How many bytes of xs, from the place at on, are of one of the classes ys. -/
def spanI (ys xs : List Int) (at' : Int) : Int := if 0 ≤ at' ∧ at' < xs.length then (run ys (xs.drop at'.toNat) : Nat) else 0

theorem el_drop (xs : List Int) (k i : Nat) : el (xs.drop k) i = el xs (k + i) := by
  unfold el
  simp

theorem BytesAt.drop {w : World} {b o : Nat} {xs : List Int} (h : ∀ i, i < xs.length → w.cell? ⟨b, o + i, none⟩ = some (.int .u8 (el xs i))) (k : Nat) :
    BytesAt w (some ⟨b, o + k, none⟩) (xs.drop k) := by
  refine .inr ⟨b, o + k, rfl, fun i hi => ?_⟩
  have h' := h (k + i) (by simp at hi; omega)
  rw [show o + k + i = o + (k + i) from by omega, h']
  show _ = some (Value.int .u8 (el (xs.drop k) i))
  rw [el_drop]

theorem Bytes.drop {xs : List Int} (h : Bytes xs) (k : Nat) : Bytes (xs.drop k) := fun x hx => h x (List.mem_of_mem_drop hx)

set_option maxHeartbeats 400000 in
theorem span_walk (p : Option Addr) (n d : Nat) (xs : List Int) (a : Int) (q : Option Addr) (m d2 : Nat) (ys : List Int) (w : World)
    (hx : xs.length = n) (hnd : n ≤ d) (hd : d ≤ maxLen) (hp : BytesAt w p xs) (hr : Bytes xs) (hy : ys.length = m) (hm : m ≤ maxLen) (hq : BytesAt w q ys) :
    Calls Try.prog 13 #[.slice p n d, .int .i64 a, .slice q m d2] w fun e w' => e = .returned (.int .i64 (spanI ys xs a)) ∧ Below w.heap.size w w' := by
  have hmf : ∀ (fn : Fn) (first cap : Array Value) (w : World), (Instr.makeFunc fn first cap).run Try.prog w = .ok (.func fn first cap) w := fun _ _ _ _ => rfl
  unfold maxLen at hd hm
  have HX := Lib.hid hx
  have HP := Lib.hid hp
  have HR := Lib.hid hr
  have HY := Lib.hid hy
  have HQ := Lib.hid hq
  clear hx hp hr hy hq
  have hw : Below w.heap.size w (w.alloc (.cells #[.slice q m d2] 25)) := (Below.refl _ _).alloc (Nat.le_refl _) _
  have HW := Lib.hid hw; clear hw
  by_cases h0 : a < 0
  · have hs : spanI ys xs a = 0 := by unfold spanI; rw [if_neg (by omega)]
    have HS := Lib.hid hs; clear hs
    go_enter Try.func13, Try.ntmps13
    go_wp2
    go_ret
    exact ⟨ret_i64 HS.out.symm, (Below.refl _ _).alloc (Nat.le_refl _) _⟩
  by_cases h1 : (n : Int) ≤ a
  · have hs : spanI ys xs a = 0 := by unfold spanI; rw [if_neg (by rw [HX.out]; omega)]
    have HS := Lib.hid hs; clear hs
    go_enter Try.func13, Try.ntmps13
    go_wp2
    go_ret
    exact ⟨ret_i64 HS.out.symm, (Below.refl _ _).alloc (Nat.le_refl _) _⟩
  · obtain ⟨k, rfl⟩ := Int.eq_ofNat_of_zero_le (by omega : 0 ≤ a)
    have hk : k < n := by omega
    have hs : spanI ys xs k = (run ys (xs.drop k) : Nat) := by unfold spanI; rw [if_pos (by rw [HX.out]; omega), Int.toNat_natCast]
    have HS := Lib.hid hs; clear hs
    obtain ⟨b, o, rfl, hc⟩ := (HP.out.below HW.out).get k (by rw [HX.out]; exact hk)
    have HC := Lib.hid hc; clear hc
    clear h0 h1
    go_enter Try.func13, Try.ntmps13
    go_wp2_with (fail)
    refine (lead_walk (some ⟨b, o + k, none⟩) (n - k) (d - k) (xs.drop k) w.heap.size q m d2 ys _ ?_ ?_ ?_ (HR.out.drop k) ?_ HY.out ?_ (HQ.out.below HW.out)).mono ?_
    · rw [List.length_drop, HX.out]
    · unfold maxLen; omega
    · exact BytesAt.drop HC.out k
    · simp
    · unfold maxLen; omega
    rintro e w' ⟨rfl, hb⟩
    have HB := Lib.hid hb; clear hb
    go_wp2
    go_ret
    exact ⟨ret_i64 HS.out.symm, HW.out.trans (HB.out.mono HW.out.size)⟩
theorem run_last (ys : List Int) (xs : List Int) (k : Nat) (hk : k = xs.length) (ha : ∀ j, j < k → isin ys (cls (el xs j)) = true) : run ys xs = k := by
  rw [run_all ys xs (fun j hj => ha j (by omega)), hk]

set_option maxHeartbeats 400000 in
theorem refSpan_walk (p : Option Addr) (n d : Nat) (xs : List Int) (a : Int) (q : Option Addr) (m d2 : Nat) (ys : List Int) (w : World)
    (hx : xs.length = n) (hn : n ≤ maxLen) (hp : BytesAt w p xs) (hr : Bytes xs) (hy : ys.length = m) (hm : m ≤ maxLen) (hq : BytesAt w q ys) :
    Calls Try.prog 14 #[.slice p n d, .int .i64 a, .slice q m d2] w fun e w' => e = .returned (.int .i64 (spanI ys xs a)) ∧ Below w.heap.size w w' := by
  unfold maxLen at hn
  have HX := Lib.hid hx
  have HP := Lib.hid hp
  have HR := Lib.hid hr
  have HY := Lib.hid hy
  have HQ := Lib.hid hq
  clear hx hp hr hy hq
  by_cases h0 : a < 0
  · have hs : spanI ys xs a = 0 := by unfold spanI; rw [if_neg (by omega)]
    have HS := Lib.hid hs; clear hs
    go_enter Try.func14, Try.ntmps14
    go_wp2
    go_ret
    exact ⟨ret_i64 HS.out.symm, Below.refl _ _⟩
  by_cases h1 : (n : Int) ≤ a
  · have hs : spanI ys xs a = 0 := by unfold spanI; rw [if_neg (by rw [HX.out]; omega)]
    have HS := Lib.hid hs; clear hs
    have h1' : decide (a < (n : Int)) = false := by simpa using h1
    go_enter Try.func14, Try.ntmps14
    go_wp2
    go_loop [7, 8] (fun k i => k = .int .i64 0 ∧ i = .int .i64 a) (fun _ _ => 0)
    case atStart => exact ⟨rfl, rfl⟩
    case round =>
      obtain ⟨rfl, rfl⟩ := hrel
      go_wp2
      go_ret
      exact ⟨ret_i64 HS.out.symm, Below.refl _ _⟩
  · obtain ⟨s, rfl⟩ := Int.eq_ofNat_of_zero_le (by omega : 0 ≤ a)
    have hk : s < n := by omega
    have hs : spanI ys xs s = (run ys (xs.drop s) : Nat) := by unfold spanI; rw [if_pos (by rw [HX.out]; omega), Int.toNat_natCast]
    have HS := Lib.hid hs; clear hs
    have hl : (xs.drop s).length = n - s := by rw [List.length_drop, HX.out]
    have HL := Lib.hid hl; clear hl
    clear h0 h1
    go_enter Try.func14, Try.ntmps14
    go_wp2
    go_loopw [7, 8] (fun c i wr => ∃ k : Nat, s + k ≤ n ∧ c = .int .i64 k ∧ i = .int .i64 (s + k : Nat) ∧ (∀ j, j < k → isin ys (cls (el (xs.drop s) j)) = true) ∧ Below w.heap.size w wr) (fun c _ _ => n - (intOf c).toNat)
    case atStart => exact ⟨0, by omega, rfl, by go_num, fun j hj => by omega, Below.refl _ _⟩
    case round =>
      obtain ⟨k, hk2, rfl, rfl, ha, hb⟩ := hrel
      have HA := Lib.hid ha
      have HB := Lib.hid hb
      clear ha hb
      by_cases hlt : s + k < n
      · obtain ⟨b, o, rfl, hc⟩ := (HP.out.below HB.out).get (s + k) (by rw [HX.out]; exact hlt)
        have hck := hc (s + k) (by rw [HX.out]; exact hlt)
        clear hc
        have hel := HR.out.el (k := s + k) (by rw [HX.out]; exact hlt)
        have HE0 := Lib.hid hel.1
        have HE1 := Lib.hid hel.2
        clear hel
        have hed : el (xs.drop s) k = el xs (s + k) := el_drop xs s k
        have HED := Lib.hid hed; clear hed
        go_wp2_with (fail)
        refine (refClass_walk _ HE0.out HE1.out _).mono ?_
        rintro e w' ⟨rfl, hb1⟩
        have hb2 := HB.out.trans (hb1.mono HB.out.size)
        have HB2 := Lib.hid hb2; clear hb1 hb2
        go_wp2_with (fail)
        refine (in_walk _ m d2 ys _ _ HY.out hm (HQ.out.below HB2.out)).mono ?_
        rintro e w' ⟨rfl, rfl⟩
        cases ht : isin ys (cls (el xs (s + k)))
        · have HT := Lib.hid ht; clear ht
          go_wp2
          go_ret
          refine ⟨ret_i64 ?_, HB2.out⟩
          rw [HS.out, run_stop ys (xs.drop s) k (by rw [HL.out]; omega) HA.out (by rw [HED.out]; exact HT.out)]
        · have HT := Lib.hid ht; clear ht
          go_wp2
          go_roundw
          case rel =>
            refine ⟨k + 1, by omega, by go_num, by go_num, fun j hj => ?_, HB2.out⟩
            by_cases hjk : j = k
            · rw [hjk, HED.out]; exact HT.out
            · exact HA.out j (by omega)
          case measure => simp [intOf]; omega
      · go_wp2
        go_ret
        refine ⟨ret_i64 ?_, HB.out⟩
        rw [HS.out, run_last ys (xs.drop s) k (by rw [HL.out]; omega) HA.out]
/-- A slice of bytes that the call has just laid. -/
theorem bytes_new (w : World) (n : Nat) (cs : Array Value) (t : TypeId) (fr : Nat × Nat) (xs : List Int) (hn : n = w.heap.size) (h : cs = (xs.map fun x => Value.int .u8 x).toArray) : BytesAt (w.alloc (.cells cs t fr)) (some ⟨n, 0, none⟩) xs := by
  subst hn h
  refine .inr ⟨w.heap.size, 0, rfl, fun i hi => ?_⟩
  rw [Nat.zero_add, World.cell?_alloc_mark]
  simp [hi]

theorem awake_walk (w : World) : Calls Try.prog 10 #[] w fun e w' => e = .returned (.bool true) ∧ Below w.heap.size w w' := by
  have kc := fun (w : World) (C : Array Value) (n c : Nat) => Lib.run_convert_bytes_const (P := Try.prog) w 25 5 C n c Try.underlying25 Try.underlying5
  go_enter Try.func10, Try.ntmps10
  go_wp2_with (fail)
  refine (span_walk _ 4 4 [97, 98, 32, 99] 0 _ 1 1 [3] _ rfl (by omega) (by unfold maxLen; omega) ?_ ?_ rfl (by unfold maxLen; omega) ?_).mono ?_
  · exact (bytes_new w _ _ _ _ [97, 98, 32, 99] rfl rfl).below ((Below.refl _ _).alloc (Nat.le_refl _) _)
  · intro x hx
    simp only [List.mem_cons, List.not_mem_nil, or_false] at hx
    rcases hx with rfl | rfl | rfl | rfl <;> omega
  · exact bytes_new _ _ _ _ _ [3] (by simp) rfl
  have hs : spanI [3] [97, 98, 32, 99] 0 = 2 := by decide
  rw [hs]
  rintro e w' ⟨rfl, hb⟩
  have hb2 : Below w.heap.size w w' := (((Below.refl _ w).alloc (Nat.le_refl _) _).alloc (by simp) _).trans (hb.mono (by simp; omega))
  have HB := Lib.hid hb2
  clear hb hb2
  have h97 : cls 97 = 3 := by decide
  have h35 : cls 35 = 0 := by decide
  have c97 := fun W => class_walk 97 (by omega) (by omega) W
  have c35 := fun W => class_walk 35 (by omega) (by omega) W
  rw [h97] at c97
  rw [h35] at c35
  clear h97 h35 hs
  go_wp2_with (fail)
  refine (c97 _).mono ?_
  rintro e w' ⟨rfl, rfl⟩
  go_wp2_with (fail)
  refine (c35 _).mono ?_
  rintro e w' ⟨rfl, rfl⟩
  go_wp2
  go_ret
  exact ⟨rfl, HB.out⟩
end Chars
end Go.Proofs.Ytoodlanmgboegaa
