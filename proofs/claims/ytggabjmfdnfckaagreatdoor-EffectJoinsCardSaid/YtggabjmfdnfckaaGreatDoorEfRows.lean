/- Rows of rows of atoms, as an argument. -/
import Derived.Test.YtggabjmfdnfckaaGreatDoorEfJoinsA
namespace Go.Proofs.YtggabjmfdnfckaaGreatDoor
open Go.RowKit Go.ChangeShapes Go.WideShapes Go.Deep
set_option linter.unusedVariables false
set_option linter.unusedSimpArgs false
namespace Effect

/-- Rows that came in. -/
def IsRws (w : World) (a : Option Addr) (len _cap : Nat) (rs : List (List At)) : Prop := RdR w len a rs ∧ len ≤ maxLen ∧ ∀ r ∈ rs, ∀ x ∈ r, AtOk x
section
variable {H : Type} {enc1 : TypeId × Value → H} {w : World} {base : Nat} {sp : Nat → Bool} {held : Bool}
theorem rowCells : Tryz.prog.cellsOf 25 = 1 := by kernel_rfl
theorem open_row1 {fuel : Nat} {cs : List Value} {y : DataW H × List MemPlace} (h : DataW.trod enc1 Tryz.prog w base sp held fuel 25 cs = some y) : ∃ p l c r, cs = [.slice p l c] ∧ IsAts w p l c r := by
  have h0 := h
  rcases DataW.trod_slice Tryz.underlying25 h with ⟨rfl, _⟩ | ⟨a, len, cap, elems, rest, n, hfuel, rfl, _⟩
  · exact ⟨none, 0, 0, [], rfl, rfl, Nat.zero_le _, .inl rfl, fun s hs => by cases hs⟩
  · obtain ⟨r, hr⟩ := open_ats h0
    exact ⟨_, _, _, r, rfl, hr⟩
theorem open_rws {fuel : Nat} {a : Option Addr} {len cap : Nat} {y : DataW H × List MemPlace} (h : DataW.trod enc1 Tryz.prog w base sp held fuel 22 (Value.slice a len cap).cells.toList = some y) : ∃ rs, IsRws w a len cap rs := by
  rcases DataW.trod_slice Tryz.underlying22 h with ⟨hcs, _⟩ | ⟨a', len', cap', elems, rest, n, hfuel, hcs, _, hb, hl, hm, hlen, hel, _, _⟩
  · have h5 : [Value.slice a len cap] = [.slice none 0 0] := hcs
    injection h5 with h5
    injection h5 with e1 e2 e3
    subst e1 e2 e3
    refine ⟨[], ⟨rfl, .inl rfl, ?_, ?_⟩, Nat.zero_le _, ?_⟩
    · intro r hr; cases hr
    · intro r hr; cases hr
    · intro r hr; cases hr
  · have h5 : [Value.slice a len cap] = [.slice (some a') len' cap'] := hcs
    injection h5 with h5
    injection h5 with e1 e2 e3
    subst e1 e2 e3
    have each : ∀ i, ∃ r : Option Addr × Nat × Nat × List At, i < len → w.cell? (a'.add i) = some (.slice r.1 r.2.1 r.2.2.1) ∧ IsAts w r.1 r.2.1 r.2.2.1 r.2.2.2 := by
      intro i
      by_cases hi : i < len
      · have he := hel i hi
        rw [rowCells, List.getElem?_eq_getElem (by omega)] at he
        obtain ⟨cs', hc, ht⟩ := Option.bind_eq_some_iff.1 he
        obtain ⟨p, l, c, r, rfl, h1⟩ := open_row1 ht
        obtain ⟨_, _, hcell⟩ := World.cells?_some hc
        have hz := hcell 0 (by omega)
        refine ⟨(p, l, c, r), fun _ => ⟨?_, h1⟩⟩
        have e : (a'.add (i * 1)).add 0 = a'.add i := by
          rw [Nat.mul_one]; unfold Addr.add; split <;> simp_all
        rw [e] at hz
        exact hz
      · exact ⟨(none, 0, 0, []), fun h => absurd h hi⟩
    obtain ⟨R, hR⟩ := Classical.axiomOfChoice each
    have hlen' : ((List.range len).map fun i => (R i).2.2.2).length = len := by simp
    have hg : ∀ i, i < len → rget ((List.range len).map fun i => (R i).2.2.2) i = (R i).2.2.2 := fun i hi => by
      unfold rget
      rw [List.getD_eq_getElem?_getD, List.getElem?_map, List.getElem?_range hi]
      rfl
    have hmem : ∀ r ∈ (List.range len).map fun i => (R i).2.2.2, ∃ i, i < len ∧ r = (R i).2.2.2 := fun r hr => by
      obtain ⟨i, hi, rfl⟩ := List.mem_map.1 hr
      exact ⟨i, List.mem_range.1 hi, rfl⟩
    refine ⟨(List.range len).map fun i => (R i).2.2.2, ⟨hlen', ?_, fun r hr x hx => ?_, fun r hr => ?_⟩, by omega, fun r hr x hx => ?_⟩
    · by_cases h0 : len = 0
      · subst h0; exact .inl rfl
      · obtain ⟨b, o, s⟩ := a'
        have hs : s = none := by
          have := World.cell?_spot (hR 0 (by omega)).1
          simpa [Addr.add] using this
        subst hs
        refine .inr ⟨b, o, rfl, fun i hi => ?_⟩
        rw [hlen'] at hi
        obtain ⟨h1, h2⟩ := hR i hi
        rw [Addr.add_lit] at h1
        rw [hg i hi]
        have hl2 := h2.1
        rw [hl2]
        exact ⟨_, _, h1, h2.2.2.1⟩
    · obtain ⟨i, hi, rfl⟩ := hmem r hr
      exact ((hR i hi).2.2.2.2 x hx).x
    · obtain ⟨i, hi, rfl⟩ := hmem r hr
      rw [(hR i hi).2.1]
      exact (hR i hi).2.2.1
    · obtain ⟨i, hi, rfl⟩ := hmem r hr
      exact (hR i hi).2.2.2.2 x hx
end
end Effect
end Go.Proofs.YtggabjmfdnfckaaGreatDoor
