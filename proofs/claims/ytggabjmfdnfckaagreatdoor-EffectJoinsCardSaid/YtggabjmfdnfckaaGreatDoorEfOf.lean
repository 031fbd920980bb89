/- The effect of atoms, as the program makes it. -/
import Derived.Test.YtggabjmfdnfckaaGreatDoorEfWout
namespace Go.Proofs.YtggabjmfdnfckaaGreatDoor
open Go.RowKit Go.Sort Go.Shelf Go.Lib
set_option linter.unusedVariables false
set_option linter.unusedSimpArgs false
namespace Effect

set_option maxRecDepth 100000 in
set_option maxHeartbeats 6400000 in
theorem of_walk (n c : Nat) (a : Option Addr) (l : List At) (w : World) (hl : l.length = n) (hn : n ≤ 100000) (ha : AtsAt w a l) (hok : ∀ x ∈ l, x.x.size ≤ maxLen) :
    Calls Tryz.prog 23 #[.slice a n c] w fun e w' => ∃ v, e = .returned v ∧ Row w.heap.size w' v (ofA l) ∧ Below w.heap.size w w' := by
  have HC := Lib.hid (withoutOdd_walk n c a l w hl hn ha hok)
  have HL := Lib.hid hl; have HN := Lib.hid hn
  clear ha hok
  go_enter Tryz.func23, Tryz.ntmps23
  go_wp2_with (fail)
  refine HC.out.mono ?_
  rintro e w1 ⟨v, rfl, hr1, hb1⟩
  obtain ⟨a1, c1, rfl⟩ := hr1.slice
  have hfl : (l.filter atomB).length ≤ l.length := List.length_filter_le _ _
  have hmem : ∀ b, b ∈ l.filter atomB ↔ b ∈ l ∧ atomB b = true := fun b => by rw [List.mem_filter]
  generalize l.filter atomB = k at *
  have HM := Lib.hid hmem; have HR1 := Lib.hid hr1; have HB1 := Lib.hid hb1; have HF := Lib.hid hfl
  have HS := Lib.hid (sort_walk w.heap.size k.length c1 a1 k w1 rfl hr1 (by omega))
  obtain ⟨m, hm⟩ : ∃ m, k.length = m := ⟨_, rfl⟩
  have HK := Lib.hid hm
  have hm2 : m ≤ n := by omega
  rw [hm] at HS ⊢
  clear hmem hr1 hb1 hfl hm hl
  go_wp2_with (fail)
  refine HS.out.mono ?_
  rintro e w2 ⟨rfl, s, hsl, hp, hpw, hs2, hg2⟩
  have HB2 := Lib.hid (HB1.out.grown hg2 HB1.out.size fun g e => (HR1.out.lt g (by rw [HK.out]; exact e)).1)
  have HE := Lib.hid (compL_of (l := l) hpw fun b => by rw [hp.mem_iff]; exact HM.out b)
  have HW := Lib.hid hs2
  have HT := Lib.hid (compact_walk w.heap.size m c1 a1 s w2 (by rw [hsl]) hs2 (by omega))
  clear hsl hp hpw hs2 hg2
  go_wp2_with (fail)
  refine HT.out.mono ?_
  rintro e w3 ⟨rfl, hs3, hg3⟩
  have HB3 := Lib.hid (HB2.out.grown hg3 HB2.out.size fun g e => (HW.out.lt g e).1)
  have HW3 := Lib.hid hs3
  clear hs3 hg3
  go_wp2_with (fail)
  go_ret
  exact ⟨_, rfl, by unfold Row; rw [← HE.out]; exact HW3.out, HB3.out⟩
end Effect
end Go.Proofs.YtggabjmfdnfckaaGreatDoor
