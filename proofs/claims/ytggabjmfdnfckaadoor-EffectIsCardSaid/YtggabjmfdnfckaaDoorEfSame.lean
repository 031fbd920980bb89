/- Within, Same, May of the program. -/
import Derived.Test.YtggabjmfdnfckaaDoorEfUnion
namespace Go.Proofs.YtggabjmfdnfckaaDoor
open Go.RowKit Go.Sort Go.Shelf Go.Lib
set_option linter.unusedVariables false
set_option linter.unusedSimpArgs false
namespace Effect

/-- A row that is read. -/
structure Rd (w : World) (n : Nat) (a : Option Addr) (l : List At) : Prop where
  len : l.length = n
  at_ : AtsAt w a l
  ok : ∀ x ∈ l, x.x.size ≤ maxLen
theorem Rd.below {w W : World} {n : Nat} {a : Option Addr} {l : List At} (h : Rd w n a l) (hb : Below w.heap.size w W) : Rd W n a l := ⟨h.len, h.at_.below hb, h.ok⟩
theorem Rd.of_row {B n c : Nat} {w : World} {a : Option Addr} {l : List At} (h : Row B w (.slice a n c) l) (hok : ∀ x ∈ l, x.x.size ≤ maxLen) : Rd w n a l := ⟨h.at.1.symm, h.at.2, hok⟩
theorem ofR {n c : Nat} {a : Option Addr} {l : List At} {w : World} (h : Rd w n a l) (hn : n ≤ 100000) : Calls Tryd.prog 10 #[.slice a n c] w fun e w' => ∃ a' m c', e = .returned (.slice a' m c') ∧ m ≤ n ∧ Row w.heap.size w' (.slice a' m c') (ofA l) ∧ Rd w' m a' (ofA l) ∧ Below w.heap.size w w' := by
  refine (of_walk n c a l w h.len hn h.at_ h.ok).mono ?_
  rintro e w' ⟨v, rfl, hr, hb⟩
  obtain ⟨a', c', rfl⟩ := hr.slice
  exact ⟨a', _, c', rfl, by have := of_le l; rw [h.len] at this; exact this, hr, Rd.of_row hr (of_ok h.ok), hb⟩
theorem equalR {n m c d : Nat} {a b : Option Addr} {l k : List At} {w : World} (h1 : Rd w n a l) (h2 : Rd w m b k) (hn : n ≤ 100000) (hm : m ≤ 100000) : Calls Tryd.prog 35 #[.slice a n c, .slice b m d] w fun e w' => e = .returned (.bool (decide (l = k))) ∧ Below w.heap.size w w' :=
  equal_walk n m c d a b l k w h1.len h2.len hn hm h1.at_ h2.at_
set_option maxRecDepth 100000 in
set_option maxHeartbeats 6400000 in
theorem may_walk {n c : Nat} {a : Option Addr} {l : List At} {w : World} (h : Rd w n a l) (hn : n ≤ 100000) : Calls Tryd.prog 13 #[.slice a n c] w fun e w' => e = .returned (.bool (decide (l = ofA l))) ∧ Below w.heap.size w w' := by
  have H := Lib.hid h; have HC := Lib.hid (ofR (c := c) h hn)
  clear h
  go_enter Tryd.func13, Tryd.ntmps13
  go_wp2_with (fail)
  refine HC.out.mono ?_
  rintro e w1 ⟨a1, m1, c1, rfl, hm, -, hr1, hb1⟩
  have HE := Lib.hid (equalR (c := c) (d := c1) (H.out.below hb1) hr1 hn (by omega))
  have HB := Lib.hid hb1
  clear hr1 hb1
  go_wp2_with (fail)
  refine HE.out.mono ?_
  rintro e w2 ⟨rfl, hb2⟩
  have HB2 := Lib.hid (below_then HB.out hb2 HB.out.size)
  clear hb2
  go_wp2_with (fail)
  go_ret
  exact ⟨rfl, HB2.out⟩
set_option maxRecDepth 100000 in
set_option maxHeartbeats 6400000 in
theorem same_walk {n c m d : Nat} {a b : Option Addr} {l k : List At} {w : World} (h : Rd w n a l) (h2 : Rd w m b k) (hn : n ≤ 100000) (hm : m ≤ 100000) : Calls Tryd.prog 21 #[.slice a n c, .slice b m d] w fun e w' => e = .returned (.bool (decide (ofA l = ofA k))) ∧ Below w.heap.size w w' := by
  have H2 := Lib.hid h2; have HC := Lib.hid (ofR (c := c) h hn)
  clear h h2
  go_enter Tryd.func21, Tryd.ntmps21
  go_wp2_with (fail)
  refine HC.out.mono ?_
  rintro e w1 ⟨a1, m1, c1, rfl, hm1, -, hr1, hb1⟩
  have HR1 := Lib.hid hr1
  have HC2 := Lib.hid (ofR (c := d) (H2.out.below hb1) hm)
  have HB := Lib.hid hb1
  clear hr1 hb1
  go_wp2_with (fail)
  refine HC2.out.mono ?_
  rintro e w2 ⟨a2, m2, c2, rfl, hm2, -, hr2, hb2⟩
  have HE := Lib.hid (equalR (c := c1) (d := c2) (HR1.out.below hb2) hr2 (by omega) (by omega))
  have HB2 := Lib.hid (below_then HB.out hb2 HB.out.size)
  clear hr2 hb2
  go_wp2_with (fail)
  refine HE.out.mono ?_
  rintro e w3 ⟨rfl, hb3⟩
  have HB3 := Lib.hid (below_then HB2.out hb3 HB2.out.size)
  clear hb3
  go_wp2_with (fail)
  go_ret
  exact ⟨rfl, HB3.out⟩
set_option maxRecDepth 100000 in
set_option maxHeartbeats 6400000 in
theorem within_walk {n c m d : Nat} {a b : Option Addr} {l k : List At} {w : World} (h : Rd w n a l) (h2 : Rd w m b k) (hn : n ≤ 10000) (hm : m ≤ 10000) : Calls Tryd.prog 20 #[.slice a n c, .slice b m d] w fun e w' => e = .returned (.bool (decide ((ofA (l ++ k)).length = (ofA k).length))) ∧ Below w.heap.size w w' := by
  have H := Lib.hid h; have H2 := Lib.hid h2
  have HU := Lib.hid fun (ty : TypeId) => union_walk 2 2 (some ⟨w.heap.size, 0, none⟩) [l, k] (w.alloc (.cells #[.slice a n c, .slice b m d] ty)) rfl (by omega) (rows_two (heap_alloc_new w _) h.len.symm h2.len.symm (h.at_.below (al_new _)) (h2.at_.below (al_new _))) (by simp [h.len, h2.len]; omega) (fun x hx => by
    simp at hx
    rcases hx with hx | hx
    · exact h.ok x hx
    · exact h2.ok x hx)
  clear h h2
  go_enter Tryd.func20, Tryd.ntmps20
  go_wp2_with (fail)
  refine (HU.out _).mono ?_
  rintro e w1 ⟨v, rfl, hr1, hb1⟩
  obtain ⟨a1, c1, rfl⟩ := hr1.slice
  have he : [l, k].flatten = l ++ k := by simp
  rw [he]
  have HB := Lib.hid (below_row (Below.refl _ _) hb1 (Nat.le_refl _))
  obtain ⟨u, hu⟩ : ∃ u, (ofA (l ++ k)).length = u := ⟨_, rfl⟩
  have hu2 : u ≤ 20000 := by have := of_le (l ++ k); rw [List.length_append, H.out.len, H2.out.len] at this; omega
  have HUL := Lib.hid hu
  rw [hu]
  have HC2 := Lib.hid (ofR (c := d) (H2.out.below HB.out) (by omega))
  clear hr1 hb1 he hu
  go_wp2_with (fail)
  refine HC2.out.mono ?_
  rintro e w2 ⟨a2, m2, c2, rfl, hm2, -, hr2, hb2⟩
  have HL := Lib.hid hr2.len
  have HB2 := Lib.hid (below_then HB.out hb2 HB.out.size)
  clear hr2 hb2
  go_wp2_with (fail)
  go_ret
  refine ⟨ret_bool ?_, HB2.out⟩
  rw [HUL.out, HL.out]
  by_cases e : u = m2
  · subst e; simp
  · simp [e]; omega
end Effect
end Go.Proofs.YtggabjmfdnfckaaDoor
