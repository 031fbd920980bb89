/- Rows of numbers; a region, swapped. -/
import Derived.Test.YtggabjmfdnfckaaDoorEfDoc
import Derived.Test.YtggabjmfdnfckaaDoorEfView
import Derived.Test.YtggabjmfdnfckaaDoorViews
namespace Go.Proofs.YtggabjmfdnfckaaDoor
open Go.RowKit
set_option linter.unusedVariables false
set_option linter.unusedSimpArgs false
namespace Effect

def nget (l : List Int) (i : Nat) : Int := l.getD i 0
theorem nget_at {l : List Int} {i : Nat} (h : i < l.length) : l[i]? = some (nget l i) := by
  unfold nget; rw [List.getD_eq_getElem?_getD, List.getElem?_eq_getElem h]; rfl
theorem nget_mem {l : List Int} {i : Nat} (h : i < l.length) : nget l i ∈ l := List.mem_of_getElem? (nget_at h)
/-- A row of numbers that is read. -/
structure RdI (w : World) (n : Nat) (p : Option Addr) (l : List Int) : Prop where
  len : l.length = n
  at_ : l = [] ∨ ∃ b o, p = some ⟨b, o, none⟩ ∧ ∀ i, i < l.length → w.cell? ⟨b, o + i, none⟩ = some (.int .i64 (nget l i))
  ok : ∀ x ∈ l, -9223372036854775808 ≤ x ∧ x ≤ 9223372036854775807
theorem RdI.below {w W : World} {n : Nat} {p : Option Addr} {l : List Int} (h : RdI w n p l) (hb : Below w.heap.size w W) : RdI W n p l := by
  refine ⟨h.len, h.at_.imp id ?_, h.ok⟩
  rintro ⟨b, o, hp, hc⟩
  exact ⟨b, o, hp, fun i hi => (hb.cell (p := ⟨b, _, none⟩) (World.block_lt_of_cell? w _ (hc i hi))).trans (hc i hi)⟩
theorem RdI.get {w : World} {n : Nat} {p : Option Addr} {l : List Int} (h : RdI w n p l) (i : Nat) (hi : i < l.length) : ∃ b o, p = some ⟨b, o, none⟩ ∧ w.cell? ⟨b, o + i, none⟩ = some (.int .i64 (nget l i)) := by
  rcases h.at_ with rfl | ⟨b, o, hp, hc⟩
  · simp at hi
  · exact ⟨b, o, hp, hc i hi⟩
theorem RdI.of_row {w : World} {a : Option Addr} {len cap : Nat} {zs : List Int} (h : Views.IsRow .i64 w a len cap zs) : RdI w len a (zs.take len) ∧ len ≤ maxLen := by
  rcases h with ⟨rfl, rfl, rfl, rfl⟩ | ⟨x, rfl, h1, h2, h3, h4, h5⟩
  · exact ⟨⟨rfl, .inl rfl, fun x hx => by cases hx⟩, Nat.zero_le _⟩
  · have hl : (zs.take len).length = len := by rw [List.length_take]; omega
    refine ⟨⟨hl, ?_, fun y hy => wf_i64 (h5 y (List.mem_of_mem_take hy))⟩, by omega⟩
    by_cases h0 : len = 0
    · subst h0; exact .inl (by simp)
    · obtain ⟨b, o, s⟩ := x
      have hs : s = none := by
        have := World.cell?_spot (h4 0 (by omega))
        simpa [Addr.add] using this
      subst hs
      refine .inr ⟨b, o, rfl, fun i hi => ?_⟩
      rw [hl] at hi
      have := h4 i (by omega)
      rw [Addr.add_lit] at this
      rw [this]
      unfold nget
      rw [List.getD_eq_getElem?_getD, List.getD_eq_getElem?_getD, List.getElem?_take_of_lt hi]
theorem index_walk {n c : Nat} {p : Option Addr} {l : List Int} {w : World} (h : RdI w n p l) (hn : n ≤ 100000) (x : Int) : Calls Tryd.prog 43 #[.slice p n c, .int .i64 x] w fun e w' => e = .returned (.int .i64 (Lib.idxOf l x)) ∧ w' = w := by
  obtain ⟨rfl, h2, -⟩ := h
  rcases h2 with rfl | ⟨b, o, rfl, hc⟩
  · exact Tryd.slices_Index_int_empty p c x w
  · have := Tryd.slices_Index_int b o l.length c l x w (Nat.le_refl _) (by omega) hc
    rw [List.take_length] at this
    exact this
/-- A region, swapped. -/
def turnI (x : Int) (f t : List Int) : Int := if 0 ≤ Lib.idxOf f x ∧ Lib.idxOf f x < t.length then nget t (Lib.idxOf f x).toNat else x
theorem idx_hit {f : List Int} {x : Int} {j : Nat} (hj : j < f.length) (hx : nget f j = x) (hn : ∀ i, i < j → nget f i ≠ x) : Lib.idxOf f x = j := by
  have := Lib.idxOf_hit f f.length j x hj (Nat.le_refl _) hx hn
  rw [List.take_length] at this
  exact this
theorem idx_miss {f : List Int} {x : Int} (hn : ∀ i, i < f.length → nget f i ≠ x) : Lib.idxOf f x = -1 := by
  have := Lib.idxOf_miss f f.length x hn
  rw [List.take_length] at this
  exact this
theorem idx_range (f : List Int) (x : Int) : Lib.idxOf f x = -1 ∨ ∃ j : Nat, Lib.idxOf f x = j ∧ j < f.length ∧ nget f j = x := by
  have key : ∀ j, j ≤ f.length → (∀ i, i < j → nget f i ≠ x) ∨ ∃ k : Nat, Lib.idxOf f x = k ∧ k < f.length ∧ nget f k = x := fun j => by
    induction j with
    | zero => intro _; exact .inl fun i hi => absurd hi (Nat.not_lt_zero _)
    | succ j ih =>
      intro hj
      rcases ih (by omega) with h | h
      · by_cases e : nget f j = x
        · exact .inr ⟨j, idx_hit (by omega) e h, by omega, e⟩
        · exact .inl fun i hi => by
            by_cases e2 : i = j
            · rw [e2]; exact e
            · exact h i (by omega)
      · exact .inr h
  rcases key f.length (Nat.le_refl _) with h | h
  · exact .inl (idx_miss h)
  · exact .inr h
theorem turn_self (x : Int) (f : List Int) : turnI x f f = x := by
  unfold turnI
  split
  · rename_i h
    rcases idx_range f x with h1 | ⟨j, h1, h2, h3⟩
    · omega
    · rw [h1]; exact h3
  · rfl
set_option maxRecDepth 100000 in
set_option maxHeartbeats 6400000 in
theorem refTurn_walk {n c m d : Nat} {a b : Option Addr} {f t : List Int} {w : World} (h : RdI w n a f) (h2 : RdI w m b t) (hn : n ≤ 100000) (hm : m ≤ 100000) (x : Int) : Calls Tryd.prog 45 #[.int .i64 x, .slice a n c, .slice b m d] w fun e w' => e = .returned (.int .i64 (turnI x f t)) ∧ w' = w := by
  have H := Lib.hid h; have H2 := Lib.hid h2
  clear h h2
  go_enter Tryd.func45, Tryd.ntmps45
  go_wp2_with (fail)
  go_loopw [7, 10] (fun _ i wr => ∃ j : Nat, j ≤ n ∧ i = .int .i64 (j : Int) ∧ Hid (wr = w) ∧ Hid (∀ i, i < j → nget f i ≠ x)) (fun _ i _ => n - (intOf i).toNat)
  case atStart => exact ⟨0, Nat.zero_le _, rfl, Lib.hid rfl, Lib.hid (fun i hi => absurd hi (Nat.not_lt_zero _))⟩
  case round =>
    obtain ⟨j, hj, rfl, HW, HA⟩ := hrel
    by_cases hlt : j < n
    · have hjl : j < f.length := by rw [H.out.len]; exact hlt
      obtain ⟨b1, o1, rfl, e0⟩ := H.out.get j hjl
      rw [← HW.out] at e0
      by_cases hx : nget f j = x
      · have hidx := idx_hit hjl hx HA.out
        rw [hx] at e0
        have hxx : (x == x) = true := by simp
        by_cases hjm : j < m
        · have hjt : j < t.length := by rw [H2.out.len]; exact hjm
          obtain ⟨b2, o2, rfl, e1⟩ := H2.out.get j hjt
          rw [← HW.out] at e1
          have ht : turnI x f t = nget t j := by
            unfold turnI
            rw [hidx, if_pos (by omega)]; rfl
          have HT := Lib.hid ht
          clear ht hidx hjl hjt hx
          go_wp2_with (fail)
          go_ret
          exact ⟨ret_i64 HT.out.symm, HW.out⟩
        · have ht : turnI x f t = x := by
            unfold turnI
            rw [hidx, if_neg (by have := H2.out.len; omega)]
          have HT := Lib.hid ht
          clear ht hidx hjl hx
          go_wp2_with (fail)
          go_ret
          exact ⟨ret_i64 HT.out.symm, HW.out⟩
      · have hxx : (nget f j == x) = false := by simpa using hx
        have HX := Lib.hid hx
        clear hx hjl
        go_wp2_with (fail)
        go_roundw
        case rel => exact ⟨j + 1, by omega, by go_num, HW, Lib.hid fun i hi => by
            by_cases e : i = j
            · rw [e]; exact HX.out
            · exact HA.out i (by omega)⟩
        case measure => simp [intOf]; omega
    · obtain rfl : j = n := by omega
      have ht : turnI x f t = x := by
        unfold turnI
        rw [idx_miss (by rw [H.out.len]; exact HA.out), if_neg (by omega)]
      have HT := Lib.hid ht
      clear ht
      go_wp2_with (fail)
      go_ret
      exact ⟨ret_i64 HT.out.symm, HW.out⟩
theorem turn_ok {x : Int} {f t : List Int} {lo hi : Int} (hx : lo ≤ x ∧ x ≤ hi) (ht : ∀ y ∈ t, lo ≤ y ∧ y ≤ hi) : lo ≤ turnI x f t ∧ turnI x f t ≤ hi := by
  unfold turnI
  split
  · rename_i h
    exact ht _ (nget_mem (by omega))
  · exact hx
end Effect
end Go.Proofs.YtggabjmfdnfckaaDoor
