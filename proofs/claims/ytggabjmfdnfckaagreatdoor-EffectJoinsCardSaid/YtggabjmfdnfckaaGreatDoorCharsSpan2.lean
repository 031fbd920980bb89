/- The walk of the program's span, whole. -/
import Derived.Test.YtggabjmfdnfckaaGreatDoorCharsSpan
import Derived.Lib.SlBytesConst
namespace Go.Proofs.YtggabjmfdnfckaaGreatDoor
open Go.RowKit
namespace Chars

/-- How many bytes of xs, from the place at on, are of one of the classes ys. -/
def spanI (ys xs : List Int) (at' : Int) : Int := if 0 ≤ at' ∧ at' < xs.length then (run ys (xs.drop at'.toNat) : Nat) else 0

theorem el_drop (xs : List Int) (k i : Nat) : el (xs.drop k) i = el xs (k + i) := by
  unfold el
  simp

theorem BytesAt.drop {w : World} {b o : Nat} {xs : List Int} (h : ∀ i, i < xs.length → w.cell? ⟨b, o + i, none⟩ = some (.int .u8 (el xs i))) (k : Nat) :
    BytesAt w (some ⟨b, o + k, none⟩) (xs.drop k) := by
  refine .inr ⟨b, o + k, rfl, fun i hi => ?_⟩
  have h' := h (k + i) (by simp at hi; omega)
  rw [show o + k + i = o + (k + i) from by omega, h']
  show _ = some (Value.int .u8 (el (xs.drop k) i))
  rw [el_drop]

theorem Bytes.drop {xs : List Int} (h : Bytes xs) (k : Nat) : Bytes (xs.drop k) := fun x hx => h x (List.mem_of_mem_drop hx)

set_option maxHeartbeats 400000 in
theorem span_walk (p : Option Addr) (n d : Nat) (xs : List Int) (a : Int) (q : Option Addr) (m d2 : Nat) (ys : List Int) (w : World)
    (hx : xs.length = n) (hnd : n ≤ d) (hd : d ≤ maxLen) (hp : BytesAt w p xs) (hr : Bytes xs) (hy : ys.length = m) (hm : m ≤ maxLen) (hq : BytesAt w q ys) :
    Calls Tryz.prog 109 #[.slice p n d, .int .i64 a, .slice q m d2] w fun e w' => e = .returned (.int .i64 (spanI ys xs a)) ∧ Below w.heap.size w w' := by
  have hmf : ∀ (fn : Fn) (first cap : Array Value) (w : World), (Instr.makeFunc fn first cap).run Tryz.prog w = .ok (.func fn first cap) w := fun _ _ _ _ => rfl
  unfold maxLen at hd hm
  have HX := Lib.hid hx
  have HP := Lib.hid hp
  have HR := Lib.hid hr
  have HY := Lib.hid hy
  have HQ := Lib.hid hq
  clear hx hp hr hy hq
  have hw : Below w.heap.size w (w.alloc (.cells #[.slice q m d2] 77)) := (Below.refl _ _).alloc (Nat.le_refl _) _
  have HW := Lib.hid hw; clear hw
  by_cases h0 : a < 0
  · have hs : spanI ys xs a = 0 := by unfold spanI; rw [if_neg (by omega)]
    have HS := Lib.hid hs; clear hs
    go_enter Tryz.func109, Tryz.ntmps109
    go_wp2
    go_ret
    exact ⟨ret_i64 HS.out.symm, (Below.refl _ _).alloc (Nat.le_refl _) _⟩
  by_cases h1 : (n : Int) ≤ a
  · have hs : spanI ys xs a = 0 := by unfold spanI; rw [if_neg (by rw [HX.out]; omega)]
    have HS := Lib.hid hs; clear hs
    go_enter Tryz.func109, Tryz.ntmps109
    go_wp2
    go_ret
    exact ⟨ret_i64 HS.out.symm, (Below.refl _ _).alloc (Nat.le_refl _) _⟩
  · obtain ⟨k, rfl⟩ := Int.eq_ofNat_of_zero_le (by omega : 0 ≤ a)
    have hk : k < n := by omega
    have hs : spanI ys xs k = (run ys (xs.drop k) : Nat) := by unfold spanI; rw [if_pos (by rw [HX.out]; omega), Int.toNat_natCast]
    have HS := Lib.hid hs; clear hs
    obtain ⟨b, o, rfl, hc⟩ := (HP.out.below HW.out).get k (by rw [HX.out]; exact hk)
    have HC := Lib.hid hc; clear hc
    clear h0 h1
    go_enter Tryz.func109, Tryz.ntmps109
    go_wp2_with (fail)
    refine (lead_walk (some ⟨b, o + k, none⟩) (n - k) (d - k) (xs.drop k) w.heap.size q m d2 ys _ ?_ ?_ ?_ (HR.out.drop k) ?_ HY.out ?_ (HQ.out.below HW.out)).mono ?_
    · rw [List.length_drop, HX.out]
    · unfold maxLen; omega
    · exact BytesAt.drop HC.out k
    · simp
    · unfold maxLen; omega
    rintro e w' ⟨rfl, hb⟩
    have HB := Lib.hid hb; clear hb
    go_wp2
    go_ret
    exact ⟨ret_i64 HS.out.symm, HW.out.trans (HB.out.mono HW.out.size)⟩
/-- A slice of bytes that the call has just laid. -/
theorem bytes_new (w : World) (n : Nat) (cs : Array Value) (t : TypeId) (fr : Nat × Nat) (xs : List Int) (hn : n = w.heap.size) (h : cs = (xs.map fun x => Value.int .u8 x).toArray) : BytesAt (w.alloc (.cells cs t fr)) (some ⟨n, 0, none⟩) xs := by
  subst hn h
  refine .inr ⟨w.heap.size, 0, rfl, fun i hi => ?_⟩
  rw [Nat.zero_add, World.cell?_alloc_mark]
  simp [hi]
end Chars
end Go.Proofs.YtggabjmfdnfckaaGreatDoor
