/- How a program comes in as an argument. -/
import Derived.Test.YtkcadkjpneoobaaDoorScopeJ
import Derived.Test.YtkcadkjpneoobaaDoorGTermE
import Derived.Deep.Slices
import Derived.Deep.Fields
namespace Go.Proofs.YtkcadkjpneoobaaDoor
open Go.RowKit Go.ChangeShapes Go.WideShapes Go.Deep
set_option linter.unusedVariables false
namespace Scope
open Term (Tm Hd TmIs tcells)

/-- A row of declared exceptions, as memory holds it. -/
def IsExs (w : World) (p : Option Addr) (n d : Nat) (xs : List Ex) : Prop := xs.length = n ∧ n ≤ maxLen ∧ ExIn w p xs
theorem exFields : ∃ f0 f1 f2 : Field, Tryd.prog.underlying 45 = some (.struct #[f0, f1, f2]) ∧ oneCellFields Tryd.prog #[f0, f1, f2] = true ∧
    Tryd.prog.underlying f0.type = some (.int .u8) ∧ Tryd.prog.underlying f1.type = some .string ∧ Tryd.prog.underlying f2.type = some (.int .i64) :=
  ⟨_, _, _, Tryd.underlying45, by kernel_rfl, by kernel_rfl, by kernel_rfl, by kernel_rfl⟩
theorem exCells : Tryd.prog.cellsOf 45 = 3 := by kernel_rfl
theorem list3 {α : Type} {l : List α} (h : l.length = 3) : ∃ a b c, l = [a, b, c] := by
  match l, h with
  | [a, b, c], _ => exact ⟨a, b, c, rfl⟩
theorem list9 {α : Type} {l : List α} (h : l.length = 9) : ∃ a b c d e f g i j, l = [a, b, c, d, e, f, g, i, j] := by
  match l, h with
  | [a, b, c, d, e, f, g, i, j], _ => exact ⟨a, b, c, d, e, f, g, i, j, rfl⟩
section
variable {H : Type} {enc : TypeId × Value → H} {w : World} {base : Nat} {sp : Nat → Bool} {held : Bool}
theorem open_ex {fuel : Nat} {cs : List Value} {y : DataW H × List MemPlace}
    (h : DataW.trod enc Tryd.prog w base sp held fuel 45 cs = some y) : ∃ (K A : Int) (s : ByteArray), cs = [.int .u8 K, .string s, .int .i64 A] := by
  obtain ⟨f0, f1, f2, hu, hone, u0, u1, u2⟩ := exFields
  obtain ⟨xs, n, _, _, hlen, hxl, hf⟩ := DataW.trod_struct hu h
  rw [exCells] at hlen
  obtain ⟨o0, k0⟩ := hone_of hone 0 f0 rfl
  obtain ⟨o1, k1⟩ := hone_of hone 1 f1 rfl
  obtain ⟨o2, k2⟩ := hone_of hone 2 f2 rfl
  obtain ⟨c0, c1, c2, rfl⟩ := list3 hlen
  have h0 := hf 0 f0 rfl
  have h1 := hf 1 f1 rfl
  have h2 := hf 2 f2 rfl
  rw [o0, k0] at h0; rw [o1, k1] at h1; rw [o2, k2] at h2
  have hxl' : xs.length = 3 := hxl
  obtain ⟨y0, y1, y2, rfl⟩ := list3 hxl'
  have e0' : DataW.trod enc Tryd.prog w base sp held n f0.type [c0] = some y0 := h0
  have e1' : DataW.trod enc Tryd.prog w base sp held n f1.type [c1] = some y1 := h1
  have e2' : DataW.trod enc Tryd.prog w base sp held n f2.type [c2] = some y2 := h2
  obtain ⟨K, e0, _, _⟩ := DataW.trod_int u0 e0'
  obtain ⟨s, e1, _, _⟩ := DataW.trod_string u1 e1'
  obtain ⟨A, e2, _, _⟩ := DataW.trod_int u2 e2'
  injection e0 with e0
  injection e1 with e1
  injection e2 with e2
  subst e0 e1 e2
  exact ⟨K, A, s, rfl⟩
theorem open_exs {fuel : Nat} {cs : List Value} {y : DataW H × List MemPlace}
    (h : DataW.trod enc Tryd.prog w base sp held fuel 22 cs = some y) : ∃ p n d xs, cs = [.slice p n d] ∧ IsExs w p n d xs := by
  rcases open_slice Tryd.underlying22 h with ⟨hcs, _⟩ | ⟨a', len', cap', m, n, D, Pl, hcs, hb, hl, hm, hmm, _, hi⟩
  · exact ⟨none, 0, 0, [], hcs, rfl, Nat.zero_le _, .inl rfl⟩
  · have hlm : len' ≤ m := by rw [hmm]; split <;> omega
    have each : ∀ i, i < len' → ∃ x : Ex, ∃ K : Int, ∀ j v, [Value.int .u8 K, .string x.s, .int .i64 x.a][j]? = some v → w.cell? ((a'.add (i * 3)).add j) = some v := by
      intro i hil
      obtain ⟨cs', hc, ht⟩ := hi i (by omega)
      rw [exCells] at hc
      obtain ⟨K, A, s, rfl⟩ := open_ex ht
      obtain ⟨_, _, hcell⟩ := World.cells?_some hc
      refine ⟨⟨s, A⟩, K, fun j v hv => ?_⟩
      have hj : j < 3 := by
        rcases Nat.lt_or_ge j 3 with h | h
        · exact h
        · rw [List.getElem?_eq_none (by simpa using h)] at hv; cases hv
      rw [hcell j hj, hv]
    have each' : ∀ i, ∃ r : Ex × Int, i < len' → ∀ j v, [Value.int .u8 r.2, .string r.1.s, .int .i64 r.1.a][j]? = some v → w.cell? ((a'.add (i * 3)).add j) = some v := by
      intro i
      by_cases hil : i < len'
      · obtain ⟨x, K, hc⟩ := each i hil
        exact ⟨(x, K), fun _ => hc⟩
      · exact ⟨(⟨⟨#[]⟩, 0⟩, 0), fun h => absurd h hil⟩
    obtain ⟨R, hR⟩ := Classical.axiomOfChoice each'
    have hlen : ((List.range len').map fun i => (R i).1).length = len' := by simp
    refine ⟨some a', len', cap', (List.range len').map fun i => (R i).1, hcs, hlen, by omega, ?_⟩
    by_cases h0 : len' = 0
    · subst h0; exact .inl rfl
    · obtain ⟨b, o, s⟩ := a'
      have h1 := hR 0 (by omega) 0 _ rfl
      have hs : s = none := by
        have := World.cell?_spot h1
        simpa [Addr.add] using this
      subst hs
      refine .inr ⟨b, o, rfl, fun i hil => ?_⟩
      rw [hlen] at hil
      have hc := hR i hil
      have hsel : eget ((List.range len').map fun i => (R i).1) i = (R i).1 := by
        unfold eget
        rw [List.getD_eq_getElem?_getD, List.getElem?_map, List.getElem?_range hil]
        rfl
      rw [hsel]
      have hadd : ∀ j, ((⟨b, o, none⟩ : Addr).add (i * 3)).add j = ⟨b, o + i * 3 + j, none⟩ := by
        intro j
        rw [Addr.add_lit, Addr.add_lit]
      refine ⟨(R i).2, ?_, ?_, ?_⟩
      · have := hc 0 _ rfl; rw [hadd] at this; exact this
      · have := hc 1 _ rfl; rw [hadd] at this; exact this
      · have := hc 2 _ rfl; rw [hadd] at this; exact this
theorem pgCells : Tryd.prog.cellsOf 29 = 9 := by kernel_rfl
theorem pgFields : ∃ f0 f1 : Field, Tryd.prog.underlying 29 = some (.struct #[f0, f1]) ∧ f0.type = 22 ∧ f1.type = 27 ∧ f0.offset = 0 ∧ f1.offset = 1 ∧ Tryd.prog.cellsOf f0.type = 1 :=
  ⟨_, _, Tryd.underlying29, by kernel_rfl, by kernel_rfl, by kernel_rfl, by kernel_rfl, by kernel_rfl⟩
theorem open_prog {fuel : Nat} {cs : Array Value} {y : DataW H × List MemPlace} (h : DataW.trod enc Tryd.prog w base sp held fuel 29 (Value.agg cs).cells.toList = some y) :
    ∃ p n d xs h q l c t, cs = #[.slice p n d, .int .u8 h.k, .int .u8 h.op, .int .i64 h.pl, .int .i64 h.n, .string h.name, .string h.arg, .string h.exn, .slice q l c] ∧ IsExs w p n d xs ∧ TmIs w h q l c t := by
  obtain ⟨f0, f1, hu, t0, t1, o0, o1, k0⟩ := pgFields
  obtain ⟨xs, n, hfuel, _, hlen, hxl, hf⟩ := DataW.trod_struct hu h
  rw [pgCells] at hlen
  obtain ⟨c0, c1, c2, c3, c4, c5, c6, c7, c8, hcs⟩ := list9 hlen
  rw [hcs] at hf
  have hxl' : xs.length = 2 := hxl
  obtain ⟨y0, y1, rfl⟩ := Term.list2 hxl'
  have h0 := hf 0 f0 rfl
  have h1 := hf 1 f1 rfl
  rw [k0, t0, o0] at h0
  rw [t1, Term.tmCells, o1] at h1
  have e0 : DataW.trod enc Tryd.prog w base sp held n 22 [c0] = some y0 := h0
  have e1 : DataW.trod enc Tryd.prog w base sp held n 27 [c1, c2, c3, c4, c5, c6, c7, c8] = some y1 := h1
  obtain ⟨p, m, d, es, g0, hE⟩ := open_exs e0
  obtain ⟨hd, q, l, c, t, g1, hT⟩ := (Term.open_all n).1 _ _ e1
  refine ⟨p, m, d, es, hd, q, l, c, t, ?_, hE, hT⟩
  apply Array.toList_inj.1
  injection g0 with g0
  unfold tcells at g1
  have hcs' : cs.toList = [c0, c1, c2, c3, c4, c5, c6, c7, c8] := hcs
  rw [hcs', g0, g1]
end
end Scope
end Go.Proofs.YtkcadkjpneoobaaDoor
