/-All atoms of rows; whether one is within another one; whether two are the same. Rows that are read; Of and May of the program. The walks of a number's digits: the program's. The program's text of an effect. The document's example; what is too great. How an argument that is a slice of atoms is seen by a walk; what the rows lay. A slice of atoms that came in, with what it may hold. Types with regions, and how memory holds them. The document's: is it an atom, is it in a row. The document's: which is ahead; an atom is put to its place. The document's put and Of. How an argument that is a slice of numbers, or of texts, is seen by a walk: of no program. Rows of numbers. -/
import Derived.Test.YtolpdhkgkjnbfaaGreatDoorGC02
import Derived.Test.YtolpdhkgkjnbfaaGreatDoorGC01
import Derived.Test.YtolpdhkgkjnbfaaGreatDoorEfShelf
import Derived.Lib.AppendIntMem
import Derived.Lib.LaidTab
import Derived.Lib.SmallJoins
import Derived.Laws.BytesArg
import Derived.LoopTactic
import Derived.Deep.Slices
import Derived.Deep.Fields
import Derived.Stop.LaidErr
import Derived.LaidMore
import Derived.LaidByTextLater
import Derived.WalkKit
import Derived.Below
import Derived.Outline
import Derived.Lib.Hide
import Derived.IntWalk
import Derived.Shelf.RegionOpenPlain
import Derived.Deep.LoopGhost
import Derived.Test.YtolpdhkgkjnbfaaGreatDoorGC00
import Derived.SliceStrings
import Derived.ChangeSlices
namespace Go.Proofs.YtolpdhkgkjnbfaaGreatDoor
open Go.RowKit Go.Sort Go.Shelf Go.Lib
set_option linter.unusedVariables false
set_option linter.unusedSimpArgs false
namespace Effect

/-! ### Are two the same -/
theorem allEq_dec : ∀ (l m : List At), allEq (fun a b => decide (a = b)) l m = decide (l = m) := by
  intro l m
  induction l generalizing m with
  | nil => cases m <;> simp [allEq]
  | cons a l ih => cases m with
    | nil => simp [allEq]
    | cons b m => simp [allEq, ih]
set_option maxHeartbeats 3200000 in
theorem equal_short (n m c d : Nat) (a b : Option Addr) (w : World) (h : n = 0 ∨ m = 0) (hn : n ≤ 1000000) (hm : m ≤ 1000000) : Calls Tryz.prog 48 #[.slice a n c, .slice b m d] w fun e w' => e = .returned (.bool (decide (n = m))) ∧ w' = w := by
  by_cases hnm : n = m
  · obtain rfl : n = 0 := by omega
    subst hnm
    clear h
    go_enter Tryz.func48, Tryz.ntmps48
    go_wp2_with (fail)
    go_loopg [13] 0 (fun g s13 wr => s13 = .int .i64 0 ∧ wr = w)
    case atStart => exact ⟨rfl, rfl⟩
    case round =>
      obtain ⟨rfl, rfl⟩ := hrel
      go_wp2_with (fail)
      go_ret
      exact ⟨ret_bool (by simp), rfl⟩
  · have HNM := Lib.hid hnm
    clear h
    go_enter Tryz.func48, Tryz.ntmps48
    go_wp2_with (fail)
    go_ret
    exact ⟨ret_bool (by rw [decide_eq_false HNM.out]), rfl⟩
theorem len_eq_of {l m : List At} (h : l.length = 0 ∨ m.length = 0) : decide (l.length = m.length) = decide (l = m) := by
  cases l <;> cases m <;> simp_all
theorem equal_walk (n m c d : Nat) (a b : Option Addr) (l k : List At) (w : World) (hl : l.length = n) (hk : k.length = m) (hn : n ≤ 100000) (hm : m ≤ 100000) (ha : AtsAt w a l) (hb : AtsAt w b k) : Calls Tryz.prog 48 #[.slice a n c, .slice b m d] w fun e w' => e = .returned (.bool (decide (l = k))) ∧ Below w.heap.size w w' := by
  subst hl hk
  rcases ha with rfl | ⟨b1, o1, rfl, h1⟩
  · refine (equal_short 0 k.length c d a b w (.inl rfl) (by omega) (by omega)).mono ?_
    rintro e w' ⟨rfl, rfl⟩
    exact ⟨ret_bool (len_eq_of (l := []) (.inl rfl)), Below.refl _ _⟩
  · rcases hb with rfl | ⟨b2, o2, rfl, h2⟩
    · refine (equal_short l.length 0 c d _ b w (.inr rfl) (by omega) (by omega)).mono ?_
      rintro e w' ⟨rfl, rfl⟩
      exact ⟨ret_bool (len_eq_of (m := []) (.inr rfl)), Below.refl _ _⟩
    · have key : ∀ (b o : Nat) (x : List At), (∀ i, i < x.length → w.cell? ⟨b, o + i * 3, none⟩ = some (.int .u8 (aget x i).k) ∧ w.cell? ⟨b, o + i * 3 + 1, none⟩ = some (.int .i64 (aget x i).r) ∧ w.cell? ⟨b, o + i * 3 + 2, none⟩ = some (.string (aget x i).x)) → ∀ j, j < x.length → ∀ i v, (enc x[j]!)[i]? = some v → w.cell? ⟨b, o + j * 3 + i, none⟩ = some v := fun b o x h j hj i v hv => by
        have e : x[j]! = aget x j := by unfold aget; rw [List.getD_eq_getElem?_getD, List.getElem!_eq_getElem?_getD]
        rw [e] at hv
        obtain ⟨c0, c1, c2⟩ := h j hj
        match i, hv with
        | 0, hv => simp [enc] at hv; rw [← hv]; exact c0
        | 1, hv => simp [enc] at hv; rw [← hv]; exact c1
        | 2, hv => simp [enc] at hv; rw [← hv]; exact c2
        | i + 3, hv => simp [enc] at hv
      have hc := AnyQ.slices_Equal Tryz.equalAt 3 Tryz.isAgg58 Tryz.sizeOf58 enc (fun _ => rfl) (fun a b => decide (a = b)) neAt b1 o1 l.length c b2 o2 k.length d l k w (Nat.le_refl _) (Nat.le_refl _) (by omega) (by omega) (key b1 o1 l h1) (key b2 o2 k h2)
      change Calls Tryz.prog 48 _ _ _ at hc
      refine hc.mono ?_
      rintro e w' ⟨rfl, q, rfl⟩
      rw [List.take_length, List.take_length, allEq_dec]
      exact ⟨rfl, ⟨rfl, rfl, rfl, Nat.le_refl _, fun _ _ => rfl⟩⟩
theorem of_le (l : List At) : (ofA l).length ≤ l.length := by
  have key : ∀ (k e : List At), (k.foldl putA e).length ≤ e.length + k.length := fun k => by
    induction k with
    | nil => intro e; simp
    | cons a k ih =>
      intro e
      have h1 := ih (putA e a)
      have h2 : (putA e a).length ≤ e.length + 1 := by
        unfold putA
        split
        · have h3 : ∀ x : List At, (insA a x).length = x.length + 1 := fun x => by
            induction x with
            | nil => rfl
            | cons y x ih2 => unfold insA; split <;> simp [ih2]
          rw [h3]; exact Nat.le_refl _
        · omega
      show ((k.foldl putA (putA e a)).length) ≤ _
      rw [List.length_cons]
      omega
  have := key l []
  simpa [ofA] using this
theorem of_ok {l : List At} {n : Nat} (h : ∀ x ∈ l, x.x.size ≤ n) : ∀ x ∈ ofA l, x.x.size ≤ n := fun x hx => h x ((mem_of l x).1 hx).1
end Effect
end Go.Proofs.YtolpdhkgkjnbfaaGreatDoor
namespace Go.Proofs.YtolpdhkgkjnbfaaGreatDoor
open Go.RowKit Go.Sort Go.Shelf Go.Lib
set_option linter.unusedVariables false
set_option linter.unusedSimpArgs false
namespace Effect

/-- A row that is read. -/
structure Rd (w : World) (n : Nat) (a : Option Addr) (l : List At) : Prop where
  len : l.length = n
  at_ : AtsAt w a l
  ok : ∀ x ∈ l, x.x.size ≤ maxLen
theorem Rd.below {w W : World} {n : Nat} {a : Option Addr} {l : List At} (h : Rd w n a l) (hb : Below w.heap.size w W) : Rd W n a l := ⟨h.len, h.at_.below hb, h.ok⟩
theorem Rd.of_row {B n c : Nat} {w : World} {a : Option Addr} {l : List At} (h : Row B w (.slice a n c) l) (hok : ∀ x ∈ l, x.x.size ≤ maxLen) : Rd w n a l := ⟨h.at.1.symm, h.at.2, hok⟩
theorem ofR {n c : Nat} {a : Option Addr} {l : List At} {w : World} (h : Rd w n a l) (hn : n ≤ 100000) : Calls Tryz.prog 49 #[.slice a n c] w fun e w' => ∃ a' m c', e = .returned (.slice a' m c') ∧ m ≤ n ∧ Row w.heap.size w' (.slice a' m c') (ofA l) ∧ Rd w' m a' (ofA l) ∧ Below w.heap.size w w' := by
  refine (of_walk n c a l w h.len hn h.at_ h.ok).mono ?_
  rintro e w' ⟨v, rfl, hr, hb⟩
  obtain ⟨a', c', rfl⟩ := hr.slice
  exact ⟨a', _, c', rfl, by have := of_le l; rw [h.len] at this; exact this, hr, Rd.of_row hr (of_ok h.ok), hb⟩
theorem equalR {n m c d : Nat} {a b : Option Addr} {l k : List At} {w : World} (h1 : Rd w n a l) (h2 : Rd w m b k) (hn : n ≤ 100000) (hm : m ≤ 100000) : Calls Tryz.prog 48 #[.slice a n c, .slice b m d] w fun e w' => e = .returned (.bool (decide (l = k))) ∧ Below w.heap.size w w' :=
  equal_walk n m c d a b l k w h1.len h2.len hn hm h1.at_ h2.at_
set_option maxRecDepth 100000 in
set_option maxHeartbeats 6400000 in
theorem may_walk {n c : Nat} {a : Option Addr} {l : List At} {w : World} (h : Rd w n a l) (hn : n ≤ 100000) : Calls Tryz.prog 61 #[.slice a n c] w fun e w' => e = .returned (.bool (decide (l = ofA l))) ∧ Below w.heap.size w w' := by
  have H := Lib.hid h; have HC := Lib.hid (ofR (c := c) h hn)
  clear h
  go_enter Tryz.func61, Tryz.ntmps61
  go_wp2_with (fail)
  refine HC.out.mono ?_
  rintro e w1 ⟨a1, m1, c1, rfl, hm, -, hr1, hb1⟩
  have HE := Lib.hid (equalR (c := c) (d := c1) (H.out.below hb1) hr1 hn (by omega))
  have HB := Lib.hid hb1
  clear hr1 hb1
  go_wp2_with (fail)
  refine HE.out.mono ?_
  rintro e w2 ⟨rfl, hb2⟩
  have HB2 := Lib.hid (below_then HB.out hb2 HB.out.size)
  clear hb2
  go_wp2_with (fail)
  go_ret
  exact ⟨rfl, HB2.out⟩
end Effect
end Go.Proofs.YtolpdhkgkjnbfaaGreatDoor
namespace Go.Proofs.YtolpdhkgkjnbfaaGreatDoor
open Go.RowKit
set_option linter.unusedVariables false
namespace Effect

theorem bytes_ext {s t : ByteArray} (h : s.data.toList = t.data.toList) : s = t := by
  cases s; cases t; simpa using h
/-! ### The program's -/
end Effect
end Go.Proofs.YtolpdhkgkjnbfaaGreatDoor
namespace Go.Proofs.YtolpdhkgkjnbfaaGreatDoor
open Go.RowKit
set_option linter.unusedVariables false
set_option linter.unusedSimpArgs false
namespace Effect

/-- Its text is short. -/
structure Sh (a : At) : Prop where
  r0 : 0 ≤ a.r
  r1 : a.r ≤ 9223372036854775807
  x : a.x.size ≤ 1000
/-! ### Text -/
end Effect
end Go.Proofs.YtolpdhkgkjnbfaaGreatDoor
namespace Go.Proofs.YtolpdhkgkjnbfaaGreatDoor
open Go.RowKit
set_option linter.unusedVariables false
set_option linter.unusedSimpArgs false
namespace Effect

def exP : At := ⟨2, 1, ⟨#[]⟩⟩
/-! ### What is too great -/
def greatB (l : List At) : Bool := decide (100 < l.length) || l.any fun x => decide (100 < x.x.size)
set_option maxRecDepth 100000 in
set_option maxHeartbeats 6400000 in
theorem great_walk {n c : Nat} {a : Option Addr} {l : List At} {w : World} (h : Rd w n a l) (hn : n ≤ maxLen) : Calls Tryz.prog 30 #[.slice a n c] w fun e w' => e = .returned (.bool (greatB l)) ∧ w' = w := by
  have H := Lib.hid h
  clear h
  unfold maxLen at hn
  go_enter Tryz.func30, Tryz.ntmps30
  by_cases h100 : 100 < n
  · have hg : true = greatB l := by unfold greatB; rw [H.out.len, decide_eq_true h100]; rfl
    have HG := Lib.hid hg
    clear hg
    go_wp2_with (fail)
    go_ret
    exact ⟨ret_bool HG.out, rfl⟩
  · go_wp2_with (fail)
    go_loopw [3, 9] (fun _ i wr => ∃ j : Nat, j ≤ n ∧ i = .int .i64 (j : Int) ∧ Hid (wr = w) ∧ Hid ((l.take j).any (fun x => decide (100 < x.x.size)) = false)) (fun _ i _ => n - (intOf i).toNat)
    case atStart => exact ⟨0, Nat.zero_le _, rfl, Lib.hid rfl, Lib.hid (by simp)⟩
    case round =>
      obtain ⟨j, hj, rfl, HW, HA⟩ := hrel
      by_cases hlt : j < n
      · have hjl : j < l.length := by rw [H.out.len]; exact hlt
        obtain ⟨b, o, rfl, -, -, e2⟩ := H.out.at_.get j hjl
        rw [← HW.out] at e2
        have hx := H.out.ok _ (aget_mem hjl)
        have htk := at_take l j hjl
        have hmem : aget l j ∈ l := aget_mem hjl
        generalize aget l j = x at *
        have HTK := Lib.hid htk; have HMEM := Lib.hid hmem
        unfold maxLen at hx
        clear htk hmem hjl
        by_cases hbig : 100 < x.x.size
        · have hg : true = greatB l := by
            unfold greatB
            have : (l.any fun x => decide (100 < x.x.size)) = true := List.any_eq_true.2 ⟨x, HMEM.out, decide_eq_true hbig⟩
            rw [this]; simp
          have HG := Lib.hid hg
          clear hg
          go_wp2_with (fail)
          go_ret
          exact ⟨ret_bool HG.out, HW.out⟩
        · have HBIG := Lib.hid hbig
          go_wp2_with (fail)
          go_roundw
          case rel => exact ⟨j + 1, by omega, by go_num, HW, Lib.hid (by rw [HTK.out, List.any_append, HA.out]; simp; have := HBIG.out; omega)⟩
          case measure => simp [intOf]; omega
      · obtain rfl : j = n := by omega
        have hg : false = greatB l := by
          unfold greatB
          have := HA.out
          rw [List.take_of_length_le (by rw [H.out.len]; exact Nat.le_refl _)] at this
          rw [this, H.out.len, decide_eq_false h100]; rfl
        have HG := Lib.hid hg
        clear hg
        go_wp2_with (fail)
        go_ret
        exact ⟨ret_bool HG.out, HW.out⟩
theorem great_no {l : List At} (h : greatB l = false) : l.length ≤ 100 ∧ ∀ x ∈ l, x.x.size ≤ 100 := by
  unfold greatB at h
  rw [Bool.or_eq_false_iff] at h
  refine ⟨by have := of_decide_eq_false h.1; omega, fun x hx => ?_⟩
  have := List.any_eq_false.1 h.2 x hx
  simp at this
  omega
end Effect
end Go.Proofs.YtolpdhkgkjnbfaaGreatDoor
namespace Go.Proofs.YtolpdhkgkjnbfaaGreatDoor
open Go.RowKit Go.ChangeShapes Go.WideShapes Go.Deep
set_option linter.unusedVariables false
namespace Effect

/-- A slice of atoms that came in. -/
def IsAts (w : World) (a : Option Addr) (len _cap : Nat) (l : List At) : Prop := l.length = len ∧ len ≤ maxLen ∧ AtsAt w a l ∧ ∀ x ∈ l, AtOk x
theorem wf_u8 {n : Int} (h : (Lit.int .u8 n).wf = true) : 0 ≤ n ∧ n ≤ 255 := by
  simp [Lit.wf, IntKind.min, IntKind.max, IntKind.signed, IntKind.bits] at h; omega
theorem wf_i64 {n : Int} (h : (Lit.int .i64 n).wf = true) : -9223372036854775808 ≤ n ∧ n ≤ 9223372036854775807 := by
  simp [Lit.wf, IntKind.min, IntKind.max, IntKind.signed, IntKind.bits] at h; omega
theorem atFields : ∃ f0 f1 f2 : Field, Tryz.prog.underlying 58 = some (.struct #[f0, f1, f2]) ∧ oneCellFields Tryz.prog #[f0, f1, f2] = true ∧
    Tryz.prog.underlying f0.type = some (.int .u8) ∧ Tryz.prog.underlying f1.type = some (.int .i64) ∧ Tryz.prog.underlying f2.type = some .string :=
  ⟨_, _, _, Tryz.underlying58, by kernel_rfl, by kernel_rfl, by kernel_rfl, by kernel_rfl⟩
theorem atCells : Tryz.prog.cellsOf 58 = 3 := by kernel_rfl
theorem list3 {α : Type} {l : List α} (h : l.length = 3) : ∃ a b c, l = [a, b, c] := by
  match l, h with
  | [a, b, c], _ => exact ⟨a, b, c, rfl⟩
/-- One atom's cells, of what reads as one. -/
theorem open_at {H : Type} {enc1 : TypeId × Value → H} {w : World} {base : Nat} {sp : Nat → Bool} {held : Bool} {fuel : Nat} {cs : List Value} {y : DataW H × List MemPlace}
    (h : DataW.trod enc1 Tryz.prog w base sp held fuel 58 cs = some y) : ∃ x : At, cs = enc x ∧ AtOk x := by
  obtain ⟨f0, f1, f2, hu, hone, u0, u1, u2⟩ := atFields
  obtain ⟨xs, n, _, _, hlen, hxl, hf⟩ := DataW.trod_struct hu h
  rw [atCells] at hlen
  obtain ⟨o0, k0⟩ := hone_of hone 0 f0 rfl
  obtain ⟨o1, k1⟩ := hone_of hone 1 f1 rfl
  obtain ⟨o2, k2⟩ := hone_of hone 2 f2 rfl
  obtain ⟨c0, c1, c2, rfl⟩ := list3 hlen
  have h0 := hf 0 f0 rfl
  have h1 := hf 1 f1 rfl
  have h2 := hf 2 f2 rfl
  rw [o0, k0] at h0; rw [o1, k1] at h1; rw [o2, k2] at h2
  have hxl' : xs.length = 3 := hxl
  obtain ⟨y0, y1, y2, rfl⟩ := list3 hxl'
  have e0' : DataW.trod enc1 Tryz.prog w base sp held n f0.type [c0] = some y0 := h0
  have e1' : DataW.trod enc1 Tryz.prog w base sp held n f1.type [c1] = some y1 := h1
  have e2' : DataW.trod enc1 Tryz.prog w base sp held n f2.type [c2] = some y2 := h2
  obtain ⟨K, e0, _, g0⟩ := DataW.trod_int u0 e0'
  obtain ⟨A, e1, _, g1⟩ := DataW.trod_int u1 e1'
  obtain ⟨s, e2, _, hs⟩ := DataW.trod_string u2 e2'
  injection e0 with e0
  injection e1 with e1
  injection e2 with e2
  subst e0 e1 e2
  exact ⟨⟨K, A, s⟩, rfl, ⟨wf_u8 g0, wf_i64 g1, hs⟩⟩
theorem open_ats {H : Type} {enc1 : TypeId × Value → H} {w : World} {base : Nat} {sp : Nat → Bool} {held : Bool} {fuel : Nat} {a : Option Addr} {len cap : Nat} {y : DataW H × List MemPlace}
    (h : DataW.trod enc1 Tryz.prog w base sp held fuel 25 [.slice a len cap] = some y) : ∃ l, IsAts w a len cap l := by
  rcases open_slice Tryz.underlying25 h with ⟨hcs, _⟩ | ⟨a', len', cap', m, n, D, Pl, hcs, hb, hl, hm, hmm, _, hi⟩
  · simp at hcs
    obtain ⟨rfl, rfl, rfl⟩ := hcs
    exact ⟨[], rfl, Nat.zero_le _, .inl rfl, fun s hs => by cases hs⟩
  · simp at hcs
    obtain ⟨rfl, rfl, rfl⟩ := hcs
    have hlm : len ≤ m := by rw [hmm]; split <;> omega
    have each : ∀ i, ∃ x : At, i < len → AtOk x ∧ ∀ j v, (enc x)[j]? = some v → w.cell? ((a'.add (i * 3)).add j) = some v := by
      intro i
      by_cases hil : i < len
      · obtain ⟨cs', hc, ht⟩ := hi i (by omega)
        rw [atCells] at hc
        obtain ⟨x, rfl, hx⟩ := open_at ht
        obtain ⟨_, _, hcell⟩ := World.cells?_some hc
        refine ⟨x, fun _ => ⟨hx, fun j v hv => ?_⟩⟩
        have hj : j < 3 := by
          rcases Nat.lt_or_ge j 3 with h | h
          · exact h
          · rw [List.getElem?_eq_none (by simpa [enc] using h)] at hv; cases hv
        rw [hcell j hj, hv]
      · exact ⟨default, fun h => absurd h hil⟩
    obtain ⟨R, hR⟩ := Classical.axiomOfChoice each
    have hlen : ((List.range len).map R).length = len := by simp
    refine ⟨(List.range len).map R, hlen, by omega, ?_, ?_⟩
    · by_cases h0 : len = 0
      · subst h0; exact .inl rfl
      · obtain ⟨b, o, s⟩ := a'
        have h1 := (hR 0 (by omega)).2 0 _ rfl
        have hs : s = none := by
          have := World.cell?_spot h1
          simpa [Addr.add] using this
        subst hs
        refine .inr ⟨b, o, rfl, fun i hil => ?_⟩
        rw [hlen] at hil
        have hc := (hR i hil).2
        have hsel : aget ((List.range len).map R) i = R i := by
          unfold aget
          rw [List.getD_eq_getElem?_getD, List.getElem?_map, List.getElem?_range hil]
          rfl
        rw [hsel]
        have hadd : ∀ j, ((⟨b, o, none⟩ : Addr).add (i * 3)).add j = ⟨b, o + i * 3 + j, none⟩ := by
          intro j
          rw [Addr.add_lit, Addr.add_lit]
        refine ⟨?_, ?_, ?_⟩
        · have := hc 0 _ rfl; rw [hadd] at this; exact this
        · have := hc 1 _ rfl; rw [hadd] at this; exact this
        · have := hc 2 _ rfl; rw [hadd] at this; exact this
    · intro s hs
      obtain ⟨i, hi', rfl⟩ := List.mem_map.1 hs
      exact (hR i (List.mem_range.1 hi')).1
theorem IsAts.rd {w : World} {a : Option Addr} {n c : Nat} {l : List At} (h : IsAts w a n c l) : Rd w n a l := ⟨h.1, h.2.2.1, fun x hx => (h.2.2.2 x hx).x⟩
end Effect
end Go.Proofs.YtolpdhkgkjnbfaaGreatDoor
namespace Go.Proofs.YtolpdhkgkjnbfaaGreatDoor
open Go.RowKit Go.ChangeShapes Go.WideShapes Go.Deep
set_option linter.unusedVariables false
namespace Effect
theorem open_row2 {H : Type} {enc1 : TypeId × Value → H} {w : World} {base : Nat} {sp : Nat → Bool} {held : Bool} {fuel : Nat} {cs : List Value} {y : DataW H × List MemPlace} (h : DataW.trod enc1 Tryz.prog w base sp held fuel 25 cs = some y) : ∃ p l c r, cs = [.slice p l c] ∧ IsAts w p l c r ∧ (l ≤ c ∧ c ≤ maxLen) := by
  have h0 := h
  rcases DataW.trod_slice Tryz.underlying25 h with ⟨rfl, _⟩ | ⟨a, len, cap, elems, rest, n, hfuel, rfl, _, hb, hl, hm, _⟩
  · exact ⟨none, 0, 0, [], rfl, ⟨rfl, Nat.zero_le _, .inl rfl, fun s hs => by cases hs⟩, by unfold maxLen; omega⟩
  · obtain ⟨r, hr⟩ := open_ats h0
    exact ⟨_, _, _, r, rfl, hr, hl, hm⟩
end Effect
end Go.Proofs.YtolpdhkgkjnbfaaGreatDoor
namespace Go.Proofs.YtolpdhkgkjnbfaaGreatDoor
open Go.RowKit Go.ChangeShapes Go.WideShapes Go.Deep
set_option linter.unusedVariables false
namespace Rt
open Effect (At AtOk AtsAt Rd)

/-- A node's own fields. -/
structure Hd where
  k : Int
  r : Int
  e : List At
inductive RT where
  | node : Hd → List RT → RT
def RT.h : RT → Hd
  | .node h _ => h
def RT.ks : RT → List RT
  | .node _ l => l
mutual
/-- How many nodes. -/
def wt : RT → Nat
  | .node _ l => wts l + 1
def wts : List RT → Nat
  | [] => 0
  | t :: ts => wt t + wts ts
end
theorem wt_pos (t : RT) : 0 < wt t := by cases t; unfold wt; omega
theorem wt_ks (t : RT) : wt t = wts t.ks + 1 := by cases t; unfold wt; rfl
theorem wts_nil : wts [] = 0 := by unfold wts; rfl
theorem wts_cons (t : RT) (ts : List RT) : wts (t :: ts) = wt t + wts ts := by conv => lhs; unfold wts
/-- Type i of some. -/
def tget (ts : List RT) (i : Nat) : RT := ts.getD i (.node ⟨0, 0, []⟩ [])
theorem tget_at {ts : List RT} {i : Nat} (h : i < ts.length) : ts[i]? = some (tget ts i) := by
  unfold tget
  rw [List.getD_eq_getElem?_getD, List.getElem?_eq_getElem h]
  rfl
theorem tget_mem {ts : List RT} {i : Nat} (h : i < ts.length) : tget ts i ∈ ts := List.mem_of_getElem? (tget_at h)
theorem wts_mem : ∀ {ts : List RT} {t : RT}, t ∈ ts → wt t ≤ wts ts
  | t :: ts, u, h => by
    rw [wts_cons]
    rcases List.mem_cons.1 h with rfl | h
    · omega
    · have := wts_mem h; omega
theorem wts_get {ts : List RT} {i : Nat} (h : i < ts.length) : wt (tget ts i) ≤ wts ts := wts_mem (tget_mem h)

/-- A type's four cells. -/
def rcells (h : Hd) (pe : Option Addr) (ne ce : Nat) (p : Option Addr) (l c : Nat) : List Value := [.int .u8 h.k, .int .i64 h.r, .slice pe ne ce, .slice p l c]
/-- Its numbers are of their kinds, its texts not too long. -/
structure HdOk (h : Hd) : Prop where
  k : 0 ≤ h.k ∧ h.k ≤ 255
  r : -9223372036854775808 ≤ h.r ∧ h.r ≤ 9223372036854775807
  e : ∀ x ∈ h.e, AtOk x
/-- Its effect, as memory holds it. -/
structure EffIs (w : World) (pe : Option Addr) (ne ce : Nat) (l : List At) : Prop where
  rd : Rd w ne pe l
  cap : ne ≤ ce ∧ ce ≤ maxLen
theorem EffIs.below {w W : World} {pe : Option Addr} {ne ce : Nat} {l : List At} (h : EffIs w pe ne ce l) (hb : Below w.heap.size w W) : EffIs W pe ne ce l := ⟨h.rd.below hb, h.cap⟩

/-- A slice's types, and theirs, as memory holds them: nothing is asked of an empty one. -/
inductive Kids (w : World) : Option Addr → List RT → Prop where
  | nokids (p : Option Addr) : Kids w p []
  | atkids (b o : Nat) (ts : List RT) (q : Nat → Option Addr) (c : Nat → Nat) (qe : Nat → Option Addr) (ce : Nat → Nat)
      (hh : ∀ i, i < ts.length → HdOk (tget ts i).h)
      (hc : ∀ i, i < ts.length → ∀ j v, (rcells (tget ts i).h (qe i) (tget ts i).h.e.length (ce i) (q i) (tget ts i).ks.length (c i))[j]? = some v → w.cell? ⟨b, o + i * 4 + j, none⟩ = some v)
      (hl : ∀ i, i < ts.length → (tget ts i).ks.length ≤ c i ∧ c i ≤ maxLen)
      (he : ∀ i, i < ts.length → EffIs w (qe i) (tget ts i).h.e.length (ce i) (tget ts i).h.e)
      (hk : ∀ i, i < ts.length → Kids w (q i) (tget ts i).ks) : Kids w (some ⟨b, o, none⟩) ts

/-- A type by value: its fields, its effect, and its kids. -/
structure RtIs (w : World) (h : Hd) (pe : Option Addr) (ne ce : Nat) (p : Option Addr) (l c : Nat) (t : RT) : Prop where
  head : t.h = h
  elen : h.e.length = ne
  len : t.ks.length = l
  ok : HdOk h
  eff : EffIs w pe ne ce h.e
  cap : l ≤ c ∧ c ≤ maxLen
  kids : Kids w p t.ks

theorem Kids.get {w : World} {p : Option Addr} {ts : List RT} (h : Kids w p ts) (i : Nat) (hi : i < ts.length) :
    ∃ b o q c qe ce, p = some ⟨b, o, none⟩ ∧ RtIs w (tget ts i).h qe (tget ts i).h.e.length ce q (tget ts i).ks.length c (tget ts i) ∧
      w.cell? ⟨b, o + i * 4, none⟩ = some (.int .u8 (tget ts i).h.k) ∧ w.cell? ⟨b, o + i * 4 + 1, none⟩ = some (.int .i64 (tget ts i).h.r) ∧ w.cell? ⟨b, o + i * 4 + 2, none⟩ = some (.slice qe (tget ts i).h.e.length ce) ∧ w.cell? ⟨b, o + i * 4 + 3, none⟩ = some (.slice q (tget ts i).ks.length c) := by
  cases h with
  | nokids => simp at hi
  | atkids b o _ q c qe ce hh hc hl he hk =>
    have hci := hc i hi
    exact ⟨b, o, q i, c i, qe i, ce i, rfl, ⟨rfl, rfl, rfl, hh i hi, he i hi, hl i hi, hk i hi⟩, hci 0 _ rfl, hci 1 _ rfl, hci 2 _ rfl, hci 3 _ rfl⟩
theorem Kids.stay {w W : World} {p : Option Addr} {ts : List RT} (h : Kids w p ts) (hb : Below w.heap.size w W) : Kids W p ts := by
  induction h with
  | nokids p => exact .nokids p
  | atkids b o ts q c qe ce hh hc hl he hk ih =>
    refine .atkids b o ts q c qe ce hh (fun i hi j v hv => ?_) hl (fun i hi => (he i hi).below hb) (fun i hi => ih i hi)
    have h0 := hc i hi j v hv
    exact (hb.cell (p := ⟨b, o + i * 4 + j, none⟩) (World.block_lt_of_cell? w _ h0)).trans h0
theorem RtIs.below {w W : World} {h : Hd} {pe : Option Addr} {ne ce : Nat} {p : Option Addr} {l c : Nat} {t : RT} (k : RtIs w h pe ne ce p l c t) (hb : Below w.heap.size w W) : RtIs W h pe ne ce p l c t := ⟨k.head, k.elen, k.len, k.ok, k.eff.below hb, k.cap, k.kids.stay hb⟩
/-! ### How an argument is seen -/
theorem list4 {α : Type} {l : List α} (h : l.length = 4) : ∃ a b c d, l = [a, b, c, d] := by
  match l, h with
  | [a, b, c, d], _ => exact ⟨a, b, c, d, rfl⟩
theorem rtCells : Tryz.prog.cellsOf 28 = 4 := by kernel_rfl
theorem rtFields : ∃ f0 f1 f2 f3 : Field, Tryz.prog.underlying 28 = some (.struct #[f0, f1, f2, f3]) ∧ oneCellFields Tryz.prog #[f0, f1, f2, f3] = true ∧ Tryz.prog.underlying f0.type = some (.int .u8) ∧ Tryz.prog.underlying f1.type = some (.int .i64) ∧ f2.type = 25 ∧ f3.type = 26 :=
  ⟨_, _, _, _, Tryz.underlying28, by kernel_rfl, by kernel_rfl, by kernel_rfl, by kernel_rfl, by kernel_rfl⟩

section
variable {H : Type} {enc : TypeId × Value → H} {w : World} {base : Nat} {sp : Nat → Bool} {held : Bool}
theorem open_all : ∀ fuel : Nat,
    (∀ (cs : List Value) (y : DataW H × List MemPlace), DataW.trod enc Tryz.prog w base sp held fuel 28 cs = some y → ∃ h pe ne ce p l c t, cs = rcells h pe ne ce p l c ∧ RtIs w h pe ne ce p l c t) ∧
    (∀ (cs : List Value) (y : DataW H × List MemPlace), DataW.trod enc Tryz.prog w base sp held fuel 26 cs = some y → ∃ p l c ts, cs = [.slice p l c] ∧ ts.length = l ∧ l ≤ c ∧ c ≤ maxLen ∧ Kids w p ts) := by
  intro fuel
  induction fuel using Nat.strongRecOn with
  | _ fuel ih =>
    constructor
    · intro cs y h
      obtain ⟨f0, f1, f2, f3, hu, hone, u0, u1, t2, t3⟩ := rtFields
      obtain ⟨xs, n, hfuel, _, hlen, hxl, hf⟩ := DataW.trod_struct hu h
      rw [rtCells] at hlen
      obtain ⟨c0, c1, c2, c3, rfl⟩ := list4 hlen
      have hxl' : xs.length = 4 := hxl
      obtain ⟨y0, y1, y2, y3, rfl⟩ := list4 hxl'
      obtain ⟨o0, k0⟩ := hone_of hone 0 f0 rfl
      obtain ⟨o1, k1⟩ := hone_of hone 1 f1 rfl
      obtain ⟨o2, k2⟩ := hone_of hone 2 f2 rfl
      obtain ⟨o3, k3⟩ := hone_of hone 3 f3 rfl
      have h0 := hf 0 f0 rfl
      have h1 := hf 1 f1 rfl
      have h2 := hf 2 f2 rfl
      have h3 := hf 3 f3 rfl
      rw [o0, k0] at h0; rw [o1, k1] at h1; rw [o2, k2] at h2; rw [o3, k3] at h3
      have e0 : DataW.trod enc Tryz.prog w base sp held n f0.type [c0] = some y0 := h0
      have e1 : DataW.trod enc Tryz.prog w base sp held n f1.type [c1] = some y1 := h1
      have e2 : DataW.trod enc Tryz.prog w base sp held n f2.type [c2] = some y2 := h2
      have e3 : DataW.trod enc Tryz.prog w base sp held n f3.type [c3] = some y3 := h3
      rw [t2] at e2
      rw [t3] at e3
      obtain ⟨K, r0, _, g0⟩ := DataW.trod_int u0 e0
      obtain ⟨O, r1, _, g1⟩ := DataW.trod_int u1 e1
      injection r0 with r0; injection r1 with r1
      subst r0 r1
      obtain ⟨pe, ne, ce, es, hcs2, hes, hcap⟩ := Effect.open_row2 e2
      injection hcs2 with hcs2
      subst hcs2
      obtain ⟨p, l, c, ts, hcs1, hl, hlc, hcm, hk⟩ := (ih n (by omega)).2 _ _ e3
      injection hcs1 with hcs1
      subst hcs1
      exact ⟨⟨K, O, es⟩, pe, ne, ce, p, l, c, .node ⟨K, O, es⟩ ts, rfl, ⟨rfl, hes.1, hl, ⟨Effect.wf_u8 g0, Effect.wf_i64 g1, hes.2.2.2⟩, ⟨hes.rd, hcap⟩, ⟨hlc, hcm⟩, hk⟩⟩
    · intro cs y h
      rcases DataW.trod_slice Tryz.underlying26 h with ⟨rfl, _⟩ | ⟨a, len, cap, elems, rest, n, hfuel, rfl, _, hb, hl, hm, hlen, hel, _, _⟩
      · exact ⟨none, 0, 0, [], rfl, rfl, Nat.le_refl _, by unfold maxLen; omega, Kids.nokids _⟩
      · have each : ∀ i, i < len → ∃ h pe ne ce q l c t, RtIs w h pe ne ce q l c t ∧ ∀ j v, (rcells h pe ne ce q l c)[j]? = some v → w.cell? ((a.add (i * 4)).add j) = some v := by
          intro i hi
          have he := hel i hi
          rw [rtCells, List.getElem?_eq_getElem (by omega)] at he
          obtain ⟨cs', hc, ht⟩ := Option.bind_eq_some_iff.1 he
          obtain ⟨h, pe, ne, ce, q, l, c, t, rfl, hT⟩ := (ih n (by omega)).1 _ _ ht
          obtain ⟨_, _, hcell⟩ := World.cells?_some hc
          refine ⟨h, pe, ne, ce, q, l, c, t, hT, fun j v hv => ?_⟩
          have hj : j < 4 := by
            rcases Nat.lt_or_ge j 4 with h | h
            · exact h
            · rw [List.getElem?_eq_none (by simpa [rcells] using h)] at hv; cases hv
          rw [hcell j hj, hv]
        have each' : ∀ i, ∃ r : Option Addr × Nat × Option Addr × Nat × RT, i < len → RtIs w r.2.2.2.2.h r.2.2.1 r.2.2.2.2.h.e.length r.2.2.2.1 r.1 r.2.2.2.2.ks.length r.2.1 r.2.2.2.2 ∧ ∀ j v, (rcells r.2.2.2.2.h r.2.2.1 r.2.2.2.2.h.e.length r.2.2.2.1 r.1 r.2.2.2.2.ks.length r.2.1)[j]? = some v → w.cell? ((a.add (i * 4)).add j) = some v := by
          intro i
          by_cases hi : i < len
          · obtain ⟨h, pe, ne, ce, q, l, c, t, hT, hc⟩ := each i hi
            have e1 := hT.head
            have e2 := hT.len
            have e3 := hT.elen
            subst e1 e2 e3
            exact ⟨(q, c, pe, ce, t), fun _ => ⟨hT, hc⟩⟩
          · exact ⟨(none, 0, none, 0, .node ⟨0, 0, []⟩ []), fun h => absurd h hi⟩
        obtain ⟨R, hR⟩ := Classical.axiomOfChoice each'
        obtain ⟨F, hFd⟩ : ∃ F : Nat → RT, F = fun i => (R i).2.2.2.2 := ⟨_, rfl⟩
        obtain ⟨Q, hQd⟩ : ∃ Q : Nat → Option Addr, Q = fun i => (R i).1 := ⟨_, rfl⟩
        obtain ⟨C, hCd⟩ : ∃ C : Nat → Nat, C = fun i => (R i).2.1 := ⟨_, rfl⟩
        obtain ⟨QE, hQEd⟩ : ∃ Q : Nat → Option Addr, Q = fun i => (R i).2.2.1 := ⟨_, rfl⟩
        obtain ⟨CE, hCEd⟩ : ∃ C : Nat → Nat, C = fun i => (R i).2.2.2.1 := ⟨_, rfl⟩
        have hF : ∀ i, i < len → RtIs w (F i).h (QE i) (F i).h.e.length (CE i) (Q i) (F i).ks.length (C i) (F i) ∧ ∀ j v, (rcells (F i).h (QE i) (F i).h.e.length (CE i) (Q i) (F i).ks.length (C i))[j]? = some v → w.cell? ((a.add (i * 4)).add j) = some v := by
          subst hFd hQd hCd hQEd hCEd
          exact hR
        have hlen' : ((List.range len).map F).length = len := by simp
        have hget : ∀ i, i < len → tget ((List.range len).map F) i = F i := by
          intro i hi
          unfold tget
          rw [List.getD_eq_getElem?_getD, List.getElem?_map, List.getElem?_range hi]
          rfl
        refine ⟨some a, len, cap, (List.range len).map F, rfl, hlen', hl, hm, ?_⟩
        by_cases h0 : len = 0
        · subst h0; exact .nokids _
        · obtain ⟨b, o, s⟩ := a
          have h1 := (hF 0 (by omega)).2 0 _ rfl
          have hs : s = none := by
            have := World.cell?_spot h1
            simpa [Addr.add] using this
          subst hs
          refine .atkids b o _ Q C QE CE (fun i hi => ?_) (fun i hi j v hv => ?_) (fun i hi => ?_) (fun i hi => ?_) (fun i hi => ?_)
          · rw [hlen'] at hi; rw [hget i hi]; exact (hF i hi).1.ok
          · rw [hlen'] at hi; rw [hget i hi] at hv
            have := (hF i hi).2 j v hv
            rw [Addr.add_lit, Addr.add_lit] at this
            exact this
          · rw [hlen'] at hi; rw [hget i hi]; exact (hF i hi).1.cap
          · rw [hlen'] at hi; rw [hget i hi]; exact (hF i hi).1.eff
          · rw [hlen'] at hi; rw [hget i hi]; exact (hF i hi).1.kids
end
theorem drop_tget (ts : List RT) (k : Nat) (h : k < ts.length) : ts.drop k = tget ts k :: ts.drop (k + 1) := by
  rw [List.drop_eq_getElem_cons h]
  have := tget_at h
  rw [List.getElem?_eq_getElem h] at this
  rw [Option.some.inj this]
theorem take_tget (ts : List RT) (k : Nat) (h : k < ts.length) : ts.take (k + 1) = ts.take k ++ [tget ts k] := by
  rw [List.take_add_one, tget_at h]; rfl
theorem wts_drop (ts : List RT) (j : Nat) (h : j < ts.length) : wts (ts.drop j) = wt (tget ts j) + wts (ts.drop (j + 1)) := by
  rw [drop_tget ts j h, wts_cons]

/-! ### Arguments -/
section
variable {H : Type} {enc : TypeId × Value → H} {w : World} {base : Nat} {sp : Nat → Bool} {held : Bool}
end
end Rt
end Go.Proofs.YtolpdhkgkjnbfaaGreatDoor
namespace Go.Proofs.YtolpdhkgkjnbfaaGreatDoor
open Go.RowKit
set_option linter.unusedVariables false
set_option linter.unusedSimpArgs false
namespace Effect

set_option maxHeartbeats 3200000 in
theorem refAtom_walk (a : At) (w : World) (hx : a.x.size ≤ maxLen) : Calls Tryz.prog 46 #[.agg #[.int .u8 a.k, .int .i64 a.r, .string a.x]] w fun e w' => e = .returned (.bool (atomB a)) ∧ Below w.heap.size w w' := by
  have hat : ∀ b, atomB a = b → atomB a = b := fun b h => h
  have hdef : atomB a = atomB a := rfl
  have HB := Lib.hid (fun O => al_new (W := w) O)
  by_cases h3 : a.k = 3
  · by_cases hr : a.r = 0
    · have ha : Words.exnB a.x = atomB a := by unfold atomB; rw [if_pos h3, hr]; simp
      have hex := fun W => Words.refExn_walk a.x W hx
      obtain ⟨k, r, x⟩ := a
      simp only at h3 hr ha hex
      subst h3 hr
      have HE := Lib.hid hex; have HA := Lib.hid ha
      clear hex hat hdef hx ha
      go_enter Tryz.func46, Tryz.ntmps46
      go_wp2_with (fail)
      refine (HE.out _).mono ?_
      rintro e w1 ⟨rfl, hb1⟩
      have H1 := Lib.hid (below_then (HB.out _) hb1 (by simp))
      clear hb1
      go_wp2_with (fail)
      go_ret
      exact ⟨ret_bool HA.out, H1.out⟩
    · have ha : false = atomB a := by unfold atomB; rw [if_pos h3, decide_eq_false hr]; simp
      obtain ⟨k, r, x⟩ := a
      simp only at h3 hr ha
      subst h3
      have hr1 : (r == 0) = false := by simpa using hr
      have HA := Lib.hid ha
      clear hat hdef hx ha hr
      go_enter Tryz.func46, Tryz.ntmps46
      go_wp2_with (fail)
      go_ret
      exact ⟨ret_bool HA.out, HB.out _⟩
  · by_cases h12 : a.k = 1 ∨ a.k = 2
    · by_cases hr : a.r < 0
      · have ha : false = atomB a := by unfold atomB; rw [if_neg h3, decide_eq_false (show ¬ 0 ≤ a.r by omega)]; simp
        obtain ⟨k, r, x⟩ := a
        simp only at h12 hr ha
        have HA := Lib.hid ha
        clear hat hdef hx ha h3
        rcases h12 with rfl | rfl
        all_goals
          go_enter Tryz.func46, Tryz.ntmps46
          go_wp2_with (fail)
          go_ret
          exact ⟨ret_bool HA.out, HB.out _⟩
      · have ha : a.x.toList.isEmpty = atomB a := by unfold atomB; rw [if_neg h3, ← emp a.x, decide_eq_true (show 0 ≤ a.r by omega)]; rcases h12 with h | h <;> rw [h] <;> simp
        obtain ⟨k, r, x⟩ := a
        simp only at h12 hr ha
        have HA := Lib.hid ha
        clear hat hdef hx ha h3
        rcases h12 with rfl | rfl
        all_goals
          go_enter Tryz.func46, Tryz.ntmps46
          go_wp2_with (fail)
          go_ret
          exact ⟨ret_bool HA.out, HB.out _⟩
    · have ha : false = atomB a := by unfold atomB; rw [if_neg h3, decide_eq_false (show ¬ a.k = 1 by omega), decide_eq_false (show ¬ a.k = 2 by omega)]; rfl
      obtain ⟨k, r, x⟩ := a
      simp only at h12 h3 ha
      have h1' : (k == 1) = false := by simp; omega
      have h2' : (k == 2) = false := by simp; omega
      have h3' : (k == 3) = false := by simp; omega
      have HA := Lib.hid ha
      clear hat hdef hx ha h3 h12
      go_enter Tryz.func46, Tryz.ntmps46
      go_wp2_with (fail)
      go_ret
      exact ⟨ret_bool HA.out, HB.out _⟩
theorem below_q {B : Nat} {w W : World} (h : Below B w W) : Below B w W.drew := ⟨h.os, h.tape, h.output, h.size, h.block⟩
set_option maxRecDepth 100000 in
set_option maxHeartbeats 6400000 in
theorem in_walk {n c : Nat} {a : Option Addr} {l : List At} {w : World} (h : Rd w n a l) (x : At) (hn : n ≤ 100000) : Calls Tryz.prog 47 #[.slice a n c, .agg #[.int .u8 x.k, .int .i64 x.r, .string x.x]] w fun e w' => e = .returned (.bool (decide (x ∈ l))) ∧ Below w.heap.size w w' := by
  have mixed : Tryz.prog.follows .mixedOrders = true := by kernel_rfl
  have HEQ := Lib.hid eqIn
  have HGD := Lib.hid (show ∀ (op : BinOp) (u v : Operand) (a b : At) (w : World), (eqGuard op 58 u v (.agg #[.int .u8 a.k, .int .i64 a.r, .string a.x]) (.agg #[.int .u8 b.k, .int .i64 b.r, .string b.x])).run Tryz.prog w = .ok () w from fun op u v a b w => eqAt.2 op u v a b w)
  have H := Lib.hid h
  have HB := Lib.hid (fun O => al_new (W := w) O)
  clear h
  go_enter Tryz.func47, Tryz.ntmps47
  go_wp2_with (fail)
  have HN := Lib.hid fun O => heap_alloc_new w O
  go_loopg [5, 8] n (fun gh _ i wr => ∃ j q : Nat, j ≤ n ∧ n - j ≤ gh ∧ i = .int .i64 (j : Int) ∧ wr = (w.alloc (.cells #[.int .u8 x.k, .int .i64 x.r, .string x.x] 58)).drewN q ∧ Hid (x ∉ l.take j))
  case atStart => exact ⟨0, 0, Nat.zero_le _, by omega, rfl, rfl, Lib.hid (by simp)⟩
  case round =>
    obtain ⟨j, q, hj, hgh, rfl, rfl, HA⟩ := hrel
    have hbb : ∀ O : Obj, Below w.heap.size w ((w.alloc O).drewN q) := fun O => ⟨rfl, rfl, rfl, (al_new O).size, (al_new O).block⟩
    have HBB := Lib.hid hbb
    clear hbb
    by_cases hlt : j < n
    · have hjl : j < l.length := by rw [H.out.len]; exact hlt
      obtain ⟨b, o, rfl, a0, a1, a2⟩ := (H.out.at_.below (al_new (.cells #[.int .u8 x.k, .int .i64 x.r, .string x.x] 58))).get j hjl
      obtain ⟨⟨b0, b1, b2⟩, -, -⟩ := c3 (HN.out (.cells #[.int .u8 x.k, .int .i64 x.r, .string x.x] 58))
      have htk := at_take l j hjl
      have hmem := aget_mem hjl
      generalize aget l j = y at *
      have HTK := Lib.hid htk; have HMEM := Lib.hid hmem
      have hgd := HGD.out
      have hq := HEQ.out y x
      simp only [enc] at hq
      clear htk hmem hjl
      by_cases he : y = x
      · have hd : decide (y = x) = true := decide_eq_true he
        rw [hd] at hq
        have HD := Lib.hid he
        clear hd he
        go_wp2_with (fail)
        go_region_o
        clear hgd hq a0 a1 a2 b0 b1 b2
        go_wp2_with (fail)
        go_ret
        exact ⟨ret_bool (decide_eq_true (by rw [← HD.out]; exact HMEM.out)).symm, below_q (HBB.out _)⟩
      · have hd : decide (y = x) = false := decide_eq_false he
        rw [hd] at hq
        have HD := Lib.hid he
        clear hd he
        go_wp2_with (fail)
        go_region_o
        clear hgd hq a0 a1 a2 b0 b1 b2
        go_wp2_with (fail)
        go_roundg (n - (j + 1))
        case measure => omega
        case rel => exact ⟨j + 1, q + 1, by omega, by omega, by go_num, rfl, Lib.hid (by rw [HTK.out]; simp only [List.mem_append, List.mem_singleton, not_or]; exact ⟨HA.out, fun e => HD.out e.symm⟩)⟩
    · obtain rfl : j = n := by omega
      have hno : x ∉ l := by
        have := HA.out
        rw [List.take_of_length_le (by rw [H.out.len]; exact Nat.le_refl _)] at this
        exact this
      have HNO := Lib.hid hno
      clear hno
      go_wp2_with (fail)
      go_ret
      exact ⟨ret_bool (decide_eq_false HNO.out).symm, HBB.out _⟩
end Effect
end Go.Proofs.YtolpdhkgkjnbfaaGreatDoor
namespace Go.Proofs.YtolpdhkgkjnbfaaGreatDoor
open Go.RowKit
set_option linter.unusedVariables false
set_option linter.unusedSimpArgs false
namespace Effect

/-! ### Mathematics -/
/-- What put has made of the first ones. -/
def InsAt (x : At) (d : Bool) (l o : List At) : Prop := (d = false ∧ o = l ∧ ∀ y ∈ l, lessA x y = false) ∨ (d = true ∧ o = insA x l ∧ ∃ y ∈ l, lessA x y = true)
theorem InsAt.len {x : At} {d : Bool} {l o : List At} (h : InsAt x d l o) : o.length ≤ l.length + 1 := by
  rcases h with ⟨_, rfl, _⟩ | ⟨_, rfl, _⟩
  · omega
  · have h3 : ∀ y : List At, (insA x y).length = y.length + 1 := fun y => by
      induction y with
      | nil => rfl
      | cons z y ih2 => unfold insA; split <;> simp [ih2]
    rw [h3]; exact Nat.le_refl _
/-! ### Less -/
end Effect
end Go.Proofs.YtolpdhkgkjnbfaaGreatDoor
namespace Go.Proofs.YtolpdhkgkjnbfaaGreatDoor
open Go.RowKit
set_option linter.unusedVariables false
set_option linter.unusedSimpArgs false
namespace Effect

theorem row_new {B : Nat} {w : World} (hB : B ≤ w.heap.size) : Row B (w.alloc (.cells #[] 58)) (.slice (some ⟨w.heap.size, 0, none⟩) 0 0) [] :=
  ⟨rfl, .inr ⟨w.heap.size, 0, #[], rfl, hB, heap_alloc_new w _, Nat.le_refl _, by unfold maxLen; omega, rfl, rfl⟩⟩
/-- One more, appended. -/
theorem Row.push {B m c1 : Nat} {W w' : World} {a1 : Option Addr} {v' : Value} {l : List At} {x : At} (hm : m = l.length) (h : w'.ownsRow B 58 3 v' (m + 1) (flat l ++ enc x)) : Row B w' v' (l ++ [x]) := by
  subst hm
  unfold Row
  rw [flat_append, flat_single, List.length_append]
  exact h
end Effect
end Go.Proofs.YtolpdhkgkjnbfaaGreatDoor

namespace Go.Proofs.YtolpdhkgkjnbfaaGreatDoor
open Go.RowKit Go.ChangeShapes Go.WideShapes
namespace Views
open Chars (BytesAt Bytes)

/-- A slice of integers that came in: nil, or all its numbers up to the capacity. -/
def IsRow (k : IntKind) (w : World) (a : Option Addr) (len cap : Nat) (zs : List Int) : Prop :=
  (a = none ∧ len = 0 ∧ cap = 0 ∧ zs = []) ∨
  ∃ x, a = some x ∧ len ≤ cap ∧ cap ≤ maxLen ∧ zs.length = cap ∧ (∀ i, i < zs.length → w.cell? (x.add i) = some (.int k (zs.getD i 0))) ∧ ∀ n ∈ zs, (Lit.int k n).wf = true

end Views
end Go.Proofs.YtolpdhkgkjnbfaaGreatDoor
namespace Go.Proofs.YtolpdhkgkjnbfaaGreatDoor
open Go.RowKit
set_option linter.unusedVariables false
set_option linter.unusedSimpArgs false
namespace Effect

def nget (l : List Int) (i : Nat) : Int := l.getD i 0
theorem nget_at {l : List Int} {i : Nat} (h : i < l.length) : l[i]? = some (nget l i) := by
  unfold nget; rw [List.getD_eq_getElem?_getD, List.getElem?_eq_getElem h]; rfl
theorem nget_mem {l : List Int} {i : Nat} (h : i < l.length) : nget l i ∈ l := List.mem_of_getElem? (nget_at h)
/-- A row of numbers that is read. -/
structure RdI (w : World) (n : Nat) (p : Option Addr) (l : List Int) : Prop where
  len : l.length = n
  at_ : l = [] ∨ ∃ b o, p = some ⟨b, o, none⟩ ∧ ∀ i, i < l.length → w.cell? ⟨b, o + i, none⟩ = some (.int .i64 (nget l i))
  ok : ∀ x ∈ l, -9223372036854775808 ≤ x ∧ x ≤ 9223372036854775807
theorem RdI.below {w W : World} {n : Nat} {p : Option Addr} {l : List Int} (h : RdI w n p l) (hb : Below w.heap.size w W) : RdI W n p l := by
  refine ⟨h.len, h.at_.imp id ?_, h.ok⟩
  rintro ⟨b, o, hp, hc⟩
  exact ⟨b, o, hp, fun i hi => (hb.cell (p := ⟨b, _, none⟩) (World.block_lt_of_cell? w _ (hc i hi))).trans (hc i hi)⟩
theorem RdI.get {w : World} {n : Nat} {p : Option Addr} {l : List Int} (h : RdI w n p l) (i : Nat) (hi : i < l.length) : ∃ b o, p = some ⟨b, o, none⟩ ∧ w.cell? ⟨b, o + i, none⟩ = some (.int .i64 (nget l i)) := by
  rcases h.at_ with rfl | ⟨b, o, hp, hc⟩
  · simp at hi
  · exact ⟨b, o, hp, hc i hi⟩
theorem RdI.of_row {w : World} {a : Option Addr} {len cap : Nat} {zs : List Int} (h : Views.IsRow .i64 w a len cap zs) : RdI w len a (zs.take len) ∧ len ≤ maxLen := by
  rcases h with ⟨rfl, rfl, rfl, rfl⟩ | ⟨x, rfl, h1, h2, h3, h4, h5⟩
  · exact ⟨⟨rfl, .inl rfl, fun x hx => by cases hx⟩, Nat.zero_le _⟩
  · have hl : (zs.take len).length = len := by rw [List.length_take]; omega
    refine ⟨⟨hl, ?_, fun y hy => wf_i64 (h5 y (List.mem_of_mem_take hy))⟩, by omega⟩
    by_cases h0 : len = 0
    · subst h0; exact .inl (by simp)
    · obtain ⟨b, o, s⟩ := x
      have hs : s = none := by
        have := World.cell?_spot (h4 0 (by omega))
        simpa [Addr.add] using this
      subst hs
      refine .inr ⟨b, o, rfl, fun i hi => ?_⟩
      rw [hl] at hi
      have := h4 i (by omega)
      rw [Addr.add_lit] at this
      rw [this]
      unfold nget
      rw [List.getD_eq_getElem?_getD, List.getD_eq_getElem?_getD, List.getElem?_take_of_lt hi]
end Effect
end Go.Proofs.YtolpdhkgkjnbfaaGreatDoor
