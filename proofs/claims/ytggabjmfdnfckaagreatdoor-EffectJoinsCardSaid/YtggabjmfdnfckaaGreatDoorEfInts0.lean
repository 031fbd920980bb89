/- Rows of numbers. -/
import Derived.Test.YtggabjmfdnfckaaGreatDoorEfDoc
import Derived.Test.YtggabjmfdnfckaaGreatDoorEfView
import Derived.Test.YtggabjmfdnfckaaGreatDoorViews
namespace Go.Proofs.YtggabjmfdnfckaaGreatDoor
open Go.RowKit
set_option linter.unusedVariables false
set_option linter.unusedSimpArgs false
namespace Effect

def nget (l : List Int) (i : Nat) : Int := l.getD i 0
theorem nget_at {l : List Int} {i : Nat} (h : i < l.length) : l[i]? = some (nget l i) := by
  unfold nget; rw [List.getD_eq_getElem?_getD, List.getElem?_eq_getElem h]; rfl
theorem nget_mem {l : List Int} {i : Nat} (h : i < l.length) : nget l i ∈ l := List.mem_of_getElem? (nget_at h)
/-- A row of numbers that is read. -/
structure RdI (w : World) (n : Nat) (p : Option Addr) (l : List Int) : Prop where
  len : l.length = n
  at_ : l = [] ∨ ∃ b o, p = some ⟨b, o, none⟩ ∧ ∀ i, i < l.length → w.cell? ⟨b, o + i, none⟩ = some (.int .i64 (nget l i))
  ok : ∀ x ∈ l, -9223372036854775808 ≤ x ∧ x ≤ 9223372036854775807
theorem RdI.below {w W : World} {n : Nat} {p : Option Addr} {l : List Int} (h : RdI w n p l) (hb : Below w.heap.size w W) : RdI W n p l := by
  refine ⟨h.len, h.at_.imp id ?_, h.ok⟩
  rintro ⟨b, o, hp, hc⟩
  exact ⟨b, o, hp, fun i hi => (hb.cell (p := ⟨b, _, none⟩) (World.block_lt_of_cell? w _ (hc i hi))).trans (hc i hi)⟩
theorem RdI.get {w : World} {n : Nat} {p : Option Addr} {l : List Int} (h : RdI w n p l) (i : Nat) (hi : i < l.length) : ∃ b o, p = some ⟨b, o, none⟩ ∧ w.cell? ⟨b, o + i, none⟩ = some (.int .i64 (nget l i)) := by
  rcases h.at_ with rfl | ⟨b, o, hp, hc⟩
  · simp at hi
  · exact ⟨b, o, hp, hc i hi⟩
theorem RdI.of_row {w : World} {a : Option Addr} {len cap : Nat} {zs : List Int} (h : Views.IsRow .i64 w a len cap zs) : RdI w len a (zs.take len) ∧ len ≤ maxLen := by
  rcases h with ⟨rfl, rfl, rfl, rfl⟩ | ⟨x, rfl, h1, h2, h3, h4, h5⟩
  · exact ⟨⟨rfl, .inl rfl, fun x hx => by cases hx⟩, Nat.zero_le _⟩
  · have hl : (zs.take len).length = len := by rw [List.length_take]; omega
    refine ⟨⟨hl, ?_, fun y hy => wf_i64 (h5 y (List.mem_of_mem_take hy))⟩, by omega⟩
    by_cases h0 : len = 0
    · subst h0; exact .inl (by simp)
    · obtain ⟨b, o, s⟩ := x
      have hs : s = none := by
        have := World.cell?_spot (h4 0 (by omega))
        simpa [Addr.add] using this
      subst hs
      refine .inr ⟨b, o, rfl, fun i hi => ?_⟩
      rw [hl] at hi
      have := h4 i (by omega)
      rw [Addr.add_lit] at this
      rw [this]
      unfold nget
      rw [List.getD_eq_getElem?_getD, List.getD_eq_getElem?_getD, List.getElem?_take_of_lt hi]
theorem index_walk {n c : Nat} {p : Option Addr} {l : List Int} {w : World} (h : RdI w n p l) (hn : n ≤ 100000) (x : Int) : Calls Tryz.prog 52 #[.slice p n c, .int .i64 x] w fun e w' => e = .returned (.int .i64 (Lib.idxOf l x)) ∧ w' = w := by
  obtain ⟨rfl, h2, -⟩ := h
  rcases h2 with rfl | ⟨b, o, rfl, hc⟩
  · exact Tryz.slices_Index_int_empty p c x w
  · have := Tryz.slices_Index_int b o l.length c l x w (Nat.le_refl _) (by omega) hc
    rw [List.take_length] at this
    exact this
end Effect
end Go.Proofs.YtggabjmfdnfckaaGreatDoor
