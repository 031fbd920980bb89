/- How an argument that is a slice of tokens is seen by a walk. -/
import Derived.Test.YtklibniadcpjhaaDoorTokenJoin
import Derived.Deep.Slices
import Derived.Deep.Fields
namespace Go.Proofs.YtklibniadcpjhaaDoor
open Go.RowKit Go.ChangeShapes Go.WideShapes Go.Deep
set_option linter.unusedVariables false
namespace Token
open Words (sel)

/-- A slice of tokens that came in, by its texts. -/
def IsToks (w : World) (a : Option Addr) (len _cap : Nat) (ss : List ByteArray) : Prop := ss.length = len ∧ len ≤ maxLen ∧ TextsIn w a ss ∧ ∀ s ∈ ss, s.size ≤ maxLen

theorem tokFields : ∃ f0 f1 f2 : Field, Tryd.prog.underlying 33 = some (.struct #[f0, f1, f2]) ∧ oneCellFields Tryd.prog #[f0, f1, f2] = true ∧
    Tryd.prog.underlying f0.type = some (.int .u8) ∧ Tryd.prog.underlying f1.type = some .string ∧ Tryd.prog.underlying f2.type = some (.int .i64) :=
  ⟨_, _, _, Tryd.underlying33, by kernel_rfl, by kernel_rfl, by kernel_rfl, by kernel_rfl⟩
theorem tokCells : Tryd.prog.cellsOf 33 = 3 := by kernel_rfl

theorem list3 {α : Type} {l : List α} (h : l.length = 3) : ∃ a b c, l = [a, b, c] := by
  match l, h with
  | [a, b, c], _ => exact ⟨a, b, c, rfl⟩
/-- One token's cells, of what reads as one. -/
theorem open_tok {H : Type} {enc : TypeId × Value → H} {w : World} {base : Nat} {sp : Nat → Bool} {held : Bool} {fuel : Nat} {cs : List Value} {y : DataW H × List MemPlace}
    (h : DataW.trod enc Tryd.prog w base sp held fuel 33 cs = some y) : ∃ (K A : Int) (s : ByteArray), cs = [.int .u8 K, .string s, .int .i64 A] ∧ s.size ≤ maxLen := by
  obtain ⟨f0, f1, f2, hu, hone, u0, u1, u2⟩ := tokFields
  obtain ⟨xs, n, _, _, hlen, hxl, hf⟩ := DataW.trod_struct hu h
  rw [tokCells] at hlen
  obtain ⟨o0, k0⟩ := hone_of hone 0 f0 rfl
  obtain ⟨o1, k1⟩ := hone_of hone 1 f1 rfl
  obtain ⟨o2, k2⟩ := hone_of hone 2 f2 rfl
  obtain ⟨c0, c1, c2, rfl⟩ := list3 hlen
  have h0 := hf 0 f0 rfl
  have h1 := hf 1 f1 rfl
  have h2 := hf 2 f2 rfl
  rw [o0, k0] at h0; rw [o1, k1] at h1; rw [o2, k2] at h2
  have hxl' : xs.length = 3 := hxl
  obtain ⟨y0, y1, y2, rfl⟩ := list3 hxl'
  have e0' : DataW.trod enc Tryd.prog w base sp held n f0.type [c0] = some y0 := h0
  have e1' : DataW.trod enc Tryd.prog w base sp held n f1.type [c1] = some y1 := h1
  have e2' : DataW.trod enc Tryd.prog w base sp held n f2.type [c2] = some y2 := h2
  obtain ⟨K, e0, _, _⟩ := DataW.trod_int u0 e0'
  obtain ⟨s, e1, _, hs⟩ := DataW.trod_string u1 e1'
  obtain ⟨A, e2, _, _⟩ := DataW.trod_int u2 e2'
  injection e0 with e0
  injection e1 with e1
  injection e2 with e2
  subst e0 e1 e2
  exact ⟨K, A, s, rfl, hs⟩

theorem open_toks {H : Type} {enc : TypeId × Value → H} {w : World} {base : Nat} {sp : Nat → Bool} {held : Bool} {fuel : Nat} {a : Option Addr} {len cap : Nat} {y : DataW H × List MemPlace}
    (h : DataW.trod enc Tryd.prog w base sp held fuel 24 [.slice a len cap] = some y) : ∃ ss, IsToks w a len cap ss := by
  rcases open_slice Tryd.underlying24 h with ⟨hcs, _⟩ | ⟨a', len', cap', m, n, D, Pl, hcs, hb, hl, hm, hmm, _, hi⟩
  · simp at hcs
    obtain ⟨rfl, rfl, rfl⟩ := hcs
    exact ⟨[], rfl, Nat.zero_le _, .inl rfl, fun s hs => by cases hs⟩
  · simp at hcs
    obtain ⟨rfl, rfl, rfl⟩ := hcs
    have hlm : len ≤ m := by rw [hmm]; split <;> omega
    have each : ∀ i, i < len → ∃ s : ByteArray, s.size ≤ maxLen ∧ ∃ K A : Int, ∀ j v, [Value.int .u8 K, .string s, .int .i64 A][j]? = some v → w.cell? ((a'.add (i * 3)).add j) = some v := by
      intro i hil
      obtain ⟨cs', hc, ht⟩ := hi i (by omega)
      rw [tokCells] at hc
      obtain ⟨K, A, s, rfl, hs⟩ := open_tok ht
      obtain ⟨_, _, hcell⟩ := World.cells?_some hc
      refine ⟨s, hs, K, A, fun j v hv => ?_⟩
      have hj : j < 3 := by
        rcases Nat.lt_or_ge j 3 with h | h
        · exact h
        · rw [List.getElem?_eq_none (by simpa using h)] at hv; cases hv
      rw [hcell j hj, hv]
    let f : Nat → ByteArray := fun i => if h : i < len then Classical.choose (each i h) else ByteArray.empty
    have hfe : ∀ i (h : i < len), f i = Classical.choose (each i h) := fun i h => dif_pos h
    have hlen : ((List.range len).map f).length = len := by simp
    refine ⟨(List.range len).map f, hlen, by omega, ?_, ?_⟩
    · by_cases h0 : len = 0
      · subst h0; exact .inl rfl
      · obtain ⟨b, o, s⟩ := a'
        obtain ⟨_, K, A, hc⟩ := Classical.choose_spec (each 0 (by omega))
        have h1 := hc 0 _ rfl
        have hs : s = none := by
          have := World.cell?_spot h1
          simpa [Addr.add] using this
        subst hs
        refine .inr ⟨b, o, rfl, fun i hil => ?_⟩
        rw [hlen] at hil
        obtain ⟨_, K, A, hc⟩ := Classical.choose_spec (each i hil)
        have hsel : sel ((List.range len).map f) i = Classical.choose (each i hil) := by
          unfold sel
          rw [List.getD_eq_getElem?_getD, List.getElem?_map, List.getElem?_range hil]
          exact hfe i hil
        rw [hsel]
        have hadd : ∀ j, ((⟨b, o, none⟩ : Addr).add (i * 3)).add j = ⟨b, o + i * 3 + j, none⟩ := by
          intro j
          rw [Addr.add_lit, Addr.add_lit]
        refine ⟨K, A, ?_, ?_, ?_⟩
        · have := hc 0 _ rfl; rw [hadd] at this; exact this
        · have := hc 1 _ rfl; rw [hadd] at this; exact this
        · have := hc 2 _ rfl; rw [hadd] at this; exact this
    · intro s hs
      obtain ⟨i, hi', rfl⟩ := List.mem_map.1 hs
      have hil : i < len := List.mem_range.1 hi'
      rw [hfe i hil]
      exact (Classical.choose_spec (each i hil)).1
end Token
end Go.Proofs.YtklibniadcpjhaaDoor
