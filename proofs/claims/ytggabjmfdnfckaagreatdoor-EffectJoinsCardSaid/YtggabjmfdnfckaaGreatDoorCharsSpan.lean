/- The walks of the program's span, and of the document's. -/
import Derived.Test.YtggabjmfdnfckaaGreatDoorCharsIn
import Derived.Deep.QuietTactic
import Derived.BigQuiet
import Derived.Deep.DeepFit
namespace Go.Proofs.YtggabjmfdnfckaaGreatDoor
open Go.RowKit
namespace Chars

theorem below_draws {B : Nat} {a w : World} (h : Below B a w) (q : Nat) : Below B a (w.drewN q) := ⟨h.os, h.tape, h.output, h.size, h.block⟩

theorem BytesAt.below {w W : World} {p : Option Addr} {xs : List Int} (h : BytesAt w p xs) (hb : Below w.heap.size w W) : BytesAt W p xs := by
  rcases h with rfl | ⟨b, o, hp, hc⟩
  · exact .inl rfl
  · refine .inr ⟨b, o, hp, fun i hi => ?_⟩
    have hl : b < w.heap.size := World.block_lt_of_cell? w _ (hc i hi)
    exact (hb.cell (p := ⟨b, o + i, none⟩) hl).trans (hc i hi)

/-- The closure of the program's span: is a byte's class one of those that its box holds? -/
theorem closure_walk (c : Int) (h0 : 0 ≤ c) (h1 : c ≤ 255) (B : Nat) (q : Option Addr) (m d : Nat) (ys : List Int) (w : World)
    (hbox : w.cell? ⟨B, 0, none⟩ = some (.slice q m d)) (hy : ys.length = m) (hm : m ≤ maxLen) (hq : BytesAt w q ys) :
    Calls Tryz.prog 117 #[.int .u8 c, .pointer (some ⟨B, 0, none⟩)] w fun e w' => e = .returned (.bool (isin ys (cls c))) ∧ ∃ n, w' = w.drewN n := by
  have HY := Lib.hid hy; clear hy
  have hcl := fun W => class_walk c h0 h1 W
  go_enter Tryz.func117, Tryz.ntmps117
  go_wp2
  go_quiet ((first | (go_at_call 99; exact Calls.quiet_of_same ((hcl _).mono fun _ _ h => ⟨h.1, h.2.symm⟩)) | (go_at_call 118; exact Calls.quiet_of_same ((contains_walk _ _ _ ys _ _ HY.out hm (hq.below (below_draws (Below.refl _ _) _))).mono fun _ _ h => ⟨h.1, h.2.symm⟩))))
  go_wp2
  go_ret
  exact ⟨rfl, _, rfl⟩
/-- How many elements, one behind the other from the first one on, are of one of the classes ys. -/
def run (ys xs : List Int) : Nat := (xs.takeWhile fun c => isin ys (cls c)).length

theorem run_le (ys xs : List Int) : run ys xs ≤ xs.length := (List.takeWhile_sublist _).length_le

theorem run_stop (ys : List Int) : ∀ (xs : List Int) (k : Nat), k < xs.length → (∀ j, j < k → isin ys (cls (el xs j)) = true) → isin ys (cls (el xs k)) = false → run ys xs = k
  | [], k, hk, _, _ => by simp at hk
  | x :: xs, 0, _, _, h => by
    have h' : isin ys (cls x) = false := h
    simp [run, h']
  | x :: xs, k + 1, hk, ha, h => by
    have h' : isin ys (cls x) = true := ha 0 (by omega)
    have ih := run_stop ys xs k (by simpa using hk) (fun j hj => ha (j + 1) (by omega)) h
    unfold run at ih ⊢
    simp [h', ih]

theorem run_all (ys : List Int) : ∀ (xs : List Int), (∀ j, j < xs.length → isin ys (cls (el xs j)) = true) → run ys xs = xs.length
  | [], _ => rfl
  | x :: xs, ha => by
    have h' : isin ys (cls x) = true := ha 0 (by simp)
    have ih := run_all ys xs (fun j hj => ha (j + 1) (by simpa using hj))
    unfold run at ih ⊢
    simp [h', ih]

def Bytes (xs : List Int) : Prop := ∀ x ∈ xs, 0 ≤ x ∧ x ≤ 255
theorem Bytes.el {xs : List Int} (h : Bytes xs) {k : Nat} (hk : k < xs.length) : 0 ≤ Chars.el xs k ∧ Chars.el xs k ≤ 255 := h _ (el_mem hk)

set_option maxHeartbeats 400000 in
theorem lead_walk (p : Option Addr) (n d : Nat) (xs : List Int) (B : Nat) (q : Option Addr) (m d2 : Nat) (ys : List Int) (w : World)
    (hx : xs.length = n) (hn : n ≤ maxLen) (hp : BytesAt w p xs) (hr : Bytes xs)
    (hbox : w.cell? ⟨B, 0, none⟩ = some (.slice q m d2)) (hy : ys.length = m) (hm : m ≤ maxLen) (hq : BytesAt w q ys) :
    Calls Tryz.prog 116 #[.slice p n d, .func (.func 117) #[] #[.pointer (some ⟨B, 0, none⟩)]] w fun e w' => e = .returned (.int .i64 (run ys xs)) ∧ Below w.heap.size w w' := by
  have hclo := fun (W : World) (hb : Below w.heap.size w W) (c : Int) (h0 : 0 ≤ c) (h1 : c ≤ 255) =>
    closure_walk c h0 h1 B q m d2 ys W ((hb.cell (p := ⟨B, 0, none⟩) (World.block_lt_of_cell? w _ hbox)).trans hbox) hy hm (hq.below hb)
  have HCLO := Lib.hid hclo
  have HX := Lib.hid hx
  have HP := Lib.hid hp
  have HR := Lib.hid hr
  clear hclo hx hp hr hbox hy hm hq
  unfold maxLen at hn
  go_enter Tryz.func116, Tryz.ntmps116
  go_wp2
  go_loopw [5, 6, 9] (fun _ _ i wr => ∃ k : Nat, k ≤ n ∧ i = .int .i64 k ∧ (∀ j, j < k → isin ys (cls (el xs j)) = true) ∧ Below w.heap.size w wr) (fun _ _ i _ => n - (intOf i).toNat)
  case atStart => exact ⟨0, by omega, rfl, fun j hj => by omega, Below.refl _ _⟩
  case round =>
    obtain ⟨k, hk, rfl, ha, hb⟩ := hrel
    have HA := Lib.hid ha
    have HB := Lib.hid hb
    clear ha hb
    by_cases hlt : k < n
    · have hk' : k < xs.length := by rw [HX.out]; exact hlt
      obtain ⟨b, o, rfl, hc⟩ := (HP.out.below HB.out).get k hk'
      have hck := hc k hk'
      clear hc
      have hel := HR.out.el hk'
      have HE0 := Lib.hid hel.1
      have HE1 := Lib.hid hel.2
      clear hel hk'
      go_wp2_with (fail)
      refine (HCLO.out _ HB.out _ HE0.out HE1.out).mono ?_
      rintro e w' ⟨rfl, q', rfl⟩
      cases ht : isin ys (cls (el xs k))
      · have HT := Lib.hid ht
        clear ht
        go_wp2
        go_ret
        refine ⟨ret_i64 ?_, below_draws HB.out _⟩
        rw [run_stop ys xs k (by rw [HX.out]; exact hlt) HA.out HT.out]
      · have HT := Lib.hid ht
        clear ht
        go_wp2
        go_roundw
        case rel =>
          refine ⟨k + 1, by omega, by go_num, fun j hj => ?_, below_draws HB.out _⟩
          by_cases hjk : j = k
          · rw [hjk]; exact HT.out
          · exact HA.out j (by omega)
        case measure => simp [intOf]; omega
    · go_wp2
      go_ret
      refine ⟨ret_i64 ?_, HB.out⟩
      have hx := HX.out
      have : k = n := by omega
      rw [run_all ys xs (fun j hj => HA.out j (by omega)), hx]
end Chars
end Go.Proofs.YtggabjmfdnfckaaGreatDoor
