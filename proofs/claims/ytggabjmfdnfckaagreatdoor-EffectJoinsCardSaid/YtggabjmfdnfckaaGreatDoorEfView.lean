/- How an argument that is a slice of atoms is seen by a walk; what the rows lay. -/
import Derived.Test.YtggabjmfdnfckaaGreatDoorEfAwake
import Derived.Deep.Slices
import Derived.Deep.Fields
import Derived.Stop.LaidErr
import Derived.LaidMore
import Derived.LaidByTextLater
namespace Go.Proofs.YtggabjmfdnfckaaGreatDoor
open Go.RowKit Go.ChangeShapes Go.WideShapes Go.Deep
set_option linter.unusedVariables false
namespace Effect

/-- A slice of atoms that came in. -/
def IsAts (w : World) (a : Option Addr) (len _cap : Nat) (l : List At) : Prop := l.length = len ∧ len ≤ maxLen ∧ AtsAt w a l ∧ ∀ x ∈ l, AtOk x
theorem wf_u8 {n : Int} (h : (Lit.int .u8 n).wf = true) : 0 ≤ n ∧ n ≤ 255 := by
  simp [Lit.wf, IntKind.min, IntKind.max, IntKind.signed, IntKind.bits] at h; omega
theorem wf_i64 {n : Int} (h : (Lit.int .i64 n).wf = true) : -9223372036854775808 ≤ n ∧ n ≤ 9223372036854775807 := by
  simp [Lit.wf, IntKind.min, IntKind.max, IntKind.signed, IntKind.bits] at h; omega
theorem atFields : ∃ f0 f1 f2 : Field, Tryz.prog.underlying 47 = some (.struct #[f0, f1, f2]) ∧ oneCellFields Tryz.prog #[f0, f1, f2] = true ∧
    Tryz.prog.underlying f0.type = some (.int .u8) ∧ Tryz.prog.underlying f1.type = some (.int .i64) ∧ Tryz.prog.underlying f2.type = some .string :=
  ⟨_, _, _, Tryz.underlying47, by kernel_rfl, by kernel_rfl, by kernel_rfl, by kernel_rfl⟩
theorem atCells : Tryz.prog.cellsOf 47 = 3 := by kernel_rfl
theorem list3 {α : Type} {l : List α} (h : l.length = 3) : ∃ a b c, l = [a, b, c] := by
  match l, h with
  | [a, b, c], _ => exact ⟨a, b, c, rfl⟩
/-- One atom's cells, of what reads as one. -/
theorem open_at {H : Type} {enc1 : TypeId × Value → H} {w : World} {base : Nat} {sp : Nat → Bool} {held : Bool} {fuel : Nat} {cs : List Value} {y : DataW H × List MemPlace}
    (h : DataW.trod enc1 Tryz.prog w base sp held fuel 47 cs = some y) : ∃ x : At, cs = enc x ∧ AtOk x := by
  obtain ⟨f0, f1, f2, hu, hone, u0, u1, u2⟩ := atFields
  obtain ⟨xs, n, _, _, hlen, hxl, hf⟩ := DataW.trod_struct hu h
  rw [atCells] at hlen
  obtain ⟨o0, k0⟩ := hone_of hone 0 f0 rfl
  obtain ⟨o1, k1⟩ := hone_of hone 1 f1 rfl
  obtain ⟨o2, k2⟩ := hone_of hone 2 f2 rfl
  obtain ⟨c0, c1, c2, rfl⟩ := list3 hlen
  have h0 := hf 0 f0 rfl
  have h1 := hf 1 f1 rfl
  have h2 := hf 2 f2 rfl
  rw [o0, k0] at h0; rw [o1, k1] at h1; rw [o2, k2] at h2
  have hxl' : xs.length = 3 := hxl
  obtain ⟨y0, y1, y2, rfl⟩ := list3 hxl'
  have e0' : DataW.trod enc1 Tryz.prog w base sp held n f0.type [c0] = some y0 := h0
  have e1' : DataW.trod enc1 Tryz.prog w base sp held n f1.type [c1] = some y1 := h1
  have e2' : DataW.trod enc1 Tryz.prog w base sp held n f2.type [c2] = some y2 := h2
  obtain ⟨K, e0, _, g0⟩ := DataW.trod_int u0 e0'
  obtain ⟨A, e1, _, g1⟩ := DataW.trod_int u1 e1'
  obtain ⟨s, e2, _, hs⟩ := DataW.trod_string u2 e2'
  injection e0 with e0
  injection e1 with e1
  injection e2 with e2
  subst e0 e1 e2
  exact ⟨⟨K, A, s⟩, rfl, ⟨wf_u8 g0, wf_i64 g1, hs⟩⟩
theorem open_ats {H : Type} {enc1 : TypeId × Value → H} {w : World} {base : Nat} {sp : Nat → Bool} {held : Bool} {fuel : Nat} {a : Option Addr} {len cap : Nat} {y : DataW H × List MemPlace}
    (h : DataW.trod enc1 Tryz.prog w base sp held fuel 25 [.slice a len cap] = some y) : ∃ l, IsAts w a len cap l := by
  rcases open_slice Tryz.underlying25 h with ⟨hcs, _⟩ | ⟨a', len', cap', m, n, D, Pl, hcs, hb, hl, hm, hmm, _, hi⟩
  · simp at hcs
    obtain ⟨rfl, rfl, rfl⟩ := hcs
    exact ⟨[], rfl, Nat.zero_le _, .inl rfl, fun s hs => by cases hs⟩
  · simp at hcs
    obtain ⟨rfl, rfl, rfl⟩ := hcs
    have hlm : len ≤ m := by rw [hmm]; split <;> omega
    have each : ∀ i, ∃ x : At, i < len → AtOk x ∧ ∀ j v, (enc x)[j]? = some v → w.cell? ((a'.add (i * 3)).add j) = some v := by
      intro i
      by_cases hil : i < len
      · obtain ⟨cs', hc, ht⟩ := hi i (by omega)
        rw [atCells] at hc
        obtain ⟨x, rfl, hx⟩ := open_at ht
        obtain ⟨_, _, hcell⟩ := World.cells?_some hc
        refine ⟨x, fun _ => ⟨hx, fun j v hv => ?_⟩⟩
        have hj : j < 3 := by
          rcases Nat.lt_or_ge j 3 with h | h
          · exact h
          · rw [List.getElem?_eq_none (by simpa [enc] using h)] at hv; cases hv
        rw [hcell j hj, hv]
      · exact ⟨default, fun h => absurd h hil⟩
    obtain ⟨R, hR⟩ := Classical.axiomOfChoice each
    have hlen : ((List.range len).map R).length = len := by simp
    refine ⟨(List.range len).map R, hlen, by omega, ?_, ?_⟩
    · by_cases h0 : len = 0
      · subst h0; exact .inl rfl
      · obtain ⟨b, o, s⟩ := a'
        have h1 := (hR 0 (by omega)).2 0 _ rfl
        have hs : s = none := by
          have := World.cell?_spot h1
          simpa [Addr.add] using this
        subst hs
        refine .inr ⟨b, o, rfl, fun i hil => ?_⟩
        rw [hlen] at hil
        have hc := (hR i hil).2
        have hsel : aget ((List.range len).map R) i = R i := by
          unfold aget
          rw [List.getD_eq_getElem?_getD, List.getElem?_map, List.getElem?_range hil]
          rfl
        rw [hsel]
        have hadd : ∀ j, ((⟨b, o, none⟩ : Addr).add (i * 3)).add j = ⟨b, o + i * 3 + j, none⟩ := by
          intro j
          rw [Addr.add_lit, Addr.add_lit]
        refine ⟨?_, ?_, ?_⟩
        · have := hc 0 _ rfl; rw [hadd] at this; exact this
        · have := hc 1 _ rfl; rw [hadd] at this; exact this
        · have := hc 2 _ rfl; rw [hadd] at this; exact this
    · intro s hs
      obtain ⟨i, hi', rfl⟩ := List.mem_map.1 hs
      exact (hR i (List.mem_range.1 hi')).1
theorem IsAts.rd {w : World} {a : Option Addr} {n c : Nat} {l : List At} (h : IsAts w a n c l) : Rd w n a l := ⟨h.1, h.2.2.1, fun x hx => (h.2.2.2 x hx).x⟩
theorem pow_of {W : World} {r : List (String × DataW Unit)} (h : laidMet Tryz.prog (("internal/strconv.uint64pow10", Rows.laid_internal_strconv_uint64pow10) :: r) W) : NumLaid W :=
  Lib.tabIs_of_head (zs := Lib.pow10Tab) (k := .u64) gPow (t := 138) (by kernel_rfl) Tryz.underlying138 Tryz.underlying98 (by kernel_rfl) (by kernel_rfl) h
theorem laid_of {W : World} {a b : String × DataW Unit} {r : List (String × DataW Unit)} (h : laidMet Tryz.prog (a :: b :: ("internal/strconv.uint64pow10", Rows.laid_internal_strconv_uint64pow10) :: r) W) : NumLaid W := pow_of h.tail.tail
end Effect
end Go.Proofs.YtggabjmfdnfckaaGreatDoor
