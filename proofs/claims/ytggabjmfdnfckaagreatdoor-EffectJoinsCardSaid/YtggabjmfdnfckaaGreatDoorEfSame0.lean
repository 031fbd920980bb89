/- Rows that are read; Of and May of the program. -/
import Derived.Test.YtggabjmfdnfckaaGreatDoorEfUnion
namespace Go.Proofs.YtggabjmfdnfckaaGreatDoor
open Go.RowKit Go.Sort Go.Shelf Go.Lib
set_option linter.unusedVariables false
set_option linter.unusedSimpArgs false
namespace Effect

/-- A row that is read. -/
structure Rd (w : World) (n : Nat) (a : Option Addr) (l : List At) : Prop where
  len : l.length = n
  at_ : AtsAt w a l
  ok : ∀ x ∈ l, x.x.size ≤ maxLen
theorem Rd.below {w W : World} {n : Nat} {a : Option Addr} {l : List At} (h : Rd w n a l) (hb : Below w.heap.size w W) : Rd W n a l := ⟨h.len, h.at_.below hb, h.ok⟩
theorem Rd.of_row {B n c : Nat} {w : World} {a : Option Addr} {l : List At} (h : Row B w (.slice a n c) l) (hok : ∀ x ∈ l, x.x.size ≤ maxLen) : Rd w n a l := ⟨h.at.1.symm, h.at.2, hok⟩
theorem ofR {n c : Nat} {a : Option Addr} {l : List At} {w : World} (h : Rd w n a l) (hn : n ≤ 100000) : Calls Tryz.prog 23 #[.slice a n c] w fun e w' => ∃ a' m c', e = .returned (.slice a' m c') ∧ m ≤ n ∧ Row w.heap.size w' (.slice a' m c') (ofA l) ∧ Rd w' m a' (ofA l) ∧ Below w.heap.size w w' := by
  refine (of_walk n c a l w h.len hn h.at_ h.ok).mono ?_
  rintro e w' ⟨v, rfl, hr, hb⟩
  obtain ⟨a', c', rfl⟩ := hr.slice
  exact ⟨a', _, c', rfl, by have := of_le l; rw [h.len] at this; exact this, hr, Rd.of_row hr (of_ok h.ok), hb⟩
theorem equalR {n m c d : Nat} {a b : Option Addr} {l k : List At} {w : World} (h1 : Rd w n a l) (h2 : Rd w m b k) (hn : n ≤ 100000) (hm : m ≤ 100000) : Calls Tryz.prog 43 #[.slice a n c, .slice b m d] w fun e w' => e = .returned (.bool (decide (l = k))) ∧ Below w.heap.size w w' :=
  equal_walk n m c d a b l k w h1.len h2.len hn hm h1.at_ h2.at_
set_option maxRecDepth 100000 in
set_option maxHeartbeats 6400000 in
theorem may_walk {n c : Nat} {a : Option Addr} {l : List At} {w : World} (h : Rd w n a l) (hn : n ≤ 100000) : Calls Tryz.prog 24 #[.slice a n c] w fun e w' => e = .returned (.bool (decide (l = ofA l))) ∧ Below w.heap.size w w' := by
  have H := Lib.hid h; have HC := Lib.hid (ofR (c := c) h hn)
  clear h
  go_enter Tryz.func24, Tryz.ntmps24
  go_wp2_with (fail)
  refine HC.out.mono ?_
  rintro e w1 ⟨a1, m1, c1, rfl, hm, -, hr1, hb1⟩
  have HE := Lib.hid (equalR (c := c) (d := c1) (H.out.below hb1) hr1 hn (by omega))
  have HB := Lib.hid hb1
  clear hr1 hb1
  go_wp2_with (fail)
  refine HE.out.mono ?_
  rintro e w2 ⟨rfl, hb2⟩
  have HB2 := Lib.hid (below_then HB.out hb2 HB.out.size)
  clear hb2
  go_wp2_with (fail)
  go_ret
  exact ⟨rfl, HB2.out⟩
end Effect
end Go.Proofs.YtggabjmfdnfckaaGreatDoor
