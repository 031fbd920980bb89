/- The regions of rows of atoms, as the program tells them. -/
import Derived.Test.YtggabjmfdnfckaaGreatDoorEfExns
import Derived.Sort.OwnSortedInts
namespace Go.Proofs.YtggabjmfdnfckaaGreatDoor
open Go.RowKit
set_option linter.unusedVariables false
set_option linter.unusedSimpArgs false
namespace Effect

def intsV (l : List Int) : List Value := l.map (Value.int .i64)
theorem mem_upToI {d : Array Int} : ∀ (m : Nat), (∀ x ∈ Lib.compactUpTo d m, ∃ j, j < m ∧ d[j]! = x) ∧ ∀ j, j < m → d[j]! ∈ Lib.compactUpTo d m
  | 0 => ⟨fun x hx => by simp [Lib.compactUpTo] at hx, fun j hj => by omega⟩
  | m + 1 => by
    obtain ⟨h1, h2⟩ := mem_upToI (d := d) m
    rw [Lib.compactUpTo_succ]
    refine ⟨fun x hx => ?_, fun j hj => ?_⟩
    · rcases List.mem_append.1 hx with hx | hx
      · obtain ⟨j, a, b⟩ := h1 x hx; exact ⟨j, by omega, b⟩
      · split at hx
        · rw [List.mem_singleton] at hx; exact ⟨m, by omega, hx.symm⟩
        · cases hx
    · rcases Nat.lt_or_ge j m with hj' | hj'
      · exact List.mem_append_left _ (h2 j hj')
      · obtain rfl : j = m := by omega
        by_cases hk : Lib.keeps d j = true
        · rw [if_pos hk]; exact List.mem_append_right _ (List.mem_singleton.2 rfl)
        · have hk' : ¬ (j = 0 ∨ d[j]! ≠ d[j - 1]!) := by simpa [Lib.keeps] using hk
          have h0 : j ≠ 0 := fun e => hk' (.inl e)
          have he : d[j]! = d[j - 1]! := Classical.not_not.1 fun e => hk' (.inr e)
          rw [he]
          exact List.mem_append_left _ (h2 (j - 1) (by omega))
def tidyI (l : List Int) : List Int := Lib.compact (l.mergeSort fun x y => decide (x ≤ y))
theorem mem_tidy (l : List Int) (x : Int) : x ∈ tidyI l ↔ x ∈ l := by
  unfold tidyI
  rw [← List.mem_mergeSort (le := fun x y : Int => decide (x ≤ y)) (l := l)]
  generalize l.mergeSort (fun x y => decide (x ≤ y)) = k
  obtain ⟨h1, h2⟩ := mem_upToI (d := k.toArray) k.length
  constructor
  · intro hx
    obtain ⟨j, hj, e⟩ := h1 x hx
    rw [← e]
    simp [hj]
  · intro hx
    obtain ⟨j, hj, e⟩ := List.mem_iff_getElem.1 hx
    have := h2 j hj
    have e2 : k.toArray[j]! = x := by simp [hj, e]
    rw [e2] at this
    exact this
/-- A row of numbers of one's own. -/
def Ixs (B : Nat) (W : World) (v : Value) (n : Nat) (l : List Int) : Prop := W.ownsRow B 3 1 v n (intsV l)
theorem sortI_walk (B n c : Nat) (a : Option Addr) (l : List Int) (w : World) (h : Ixs B w (.slice a n c) n l) (hn : n < 4611686018427387904) :
    Calls Tryz.prog 29 #[.slice a n c] w fun en w' => en = .returned (.tuple #[]) ∧ Ixs B w' (.slice a n c) n (l.mergeSort fun x y => decide (x ≤ y)) ∧ w.grownBy w' (Value.slice a n c).ownBlock := by
  have hll : l.length = n := by have := h.1; unfold intsV at this; rw [List.length_map] at this; omega
  subst hll
  rcases h.2 with ⟨hv, h0⟩ | ⟨g, cap, cur, hv, hb, hg, h1, h2, h3, h4⟩
  · have hl : l = [] := List.eq_nil_of_length_eq_zero h0
    subst hl
    refine (Tryz.slices_Sort_int_none a c w).mono ?_
    rintro en w' ⟨rfl, rfl⟩
    exact ⟨rfl, by simpa using h, ⟨rfl, rfl, rfl, Nat.le_refl _, fun _ _ _ => rfl⟩⟩
  · injection hv with hv1 hv2 hv3
    subst hv1 hv3
    have hH := Go.holds_of_blockI hg (by rw [Nat.mul_one] at h4; exact h4)
    refine (Tryz.slices_Sort_int g 0 c l w hH (lt_of_block hg) hn).mono ?_
    rintro en w' ⟨rfl, q, os, rfl⟩
    exact ⟨rfl, Go.ownsRow_sortedI (List.length_mergeSort _) hb hg h1 h2 h3, Go.grownBy_sortedI _⟩
theorem own_popI {w : World} {B n c m : Nat} {a : Option Addr} {xs : List Value} (h : w.ownsRow B 3 1 (.slice a n c) n xs) (hm : m ≤ n) (hn : 0 < n) : w.ownsRow B 3 1 (.slice a m c) m (xs.take m) := by
  rcases h.2 with ⟨_, h0⟩ | ⟨g, cap, cur, hv, hb, hg, h1, h2, h3, h4⟩
  · omega
  · injection hv with hv1 hv2 hv3
    subst hv1 hv3
    have hl := h.1
    refine ⟨by rw [List.length_take]; omega, .inr ⟨g, c, cur, rfl, hb, hg, by omega, h2, h3, by rw [← h4, List.take_take]; congr 1; omega⟩⟩
theorem compactI_walk (B n c : Nat) (a : Option Addr) (l : List Int) (w : World) (h : Ixs B w (.slice a n c) n l) (hn : n < 4611686018427387904) :
    Calls Tryz.prog 30 #[.slice a n c] w fun en w' => en = .returned (.slice a (Lib.compact l).length c) ∧ Ixs B w' (.slice a (Lib.compact l).length c) (Lib.compact l).length (Lib.compact l) ∧ w.grownBy w' (Value.slice a n c).ownBlock := by
  have hll : l.length = n := by have := h.1; unfold intsV at this; rw [List.length_map] at this; omega
  subst hll
  rcases h.2 with ⟨hv, h0⟩ | ⟨g, cap, cur, hv, hb, hg, h1, h2, h3, h4⟩
  · have hl : l = [] := List.eq_nil_of_length_eq_zero h0
    subst hl
    refine (Tryz.slices_Compact_int_empty a c w).mono ?_
    rintro en w' ⟨rfl, rfl⟩
    exact ⟨rfl, h, ⟨rfl, rfl, rfl, Nat.le_refl _, fun _ _ _ => rfl⟩⟩
  · injection hv with hv1 hv2 hv3
    subst hv1 hv3
    have hH := Go.holds_of_blockI hg (by rw [Nat.mul_one] at h4; exact h4)
    have hle := Lib.compact_length_le l
    refine (Tryz.slices_Compact_int g 0 c l w hH (by omega) h1).mono ?_
    rintro en w' ⟨rfl, q, rfl⟩
    have e := Go.Sort.grow_empty (Go.Sort.putRow (Value.int .i64) (Go.Sort.ahead w q) g 0 (Lib.compact l ++ List.replicate (l.length - (Lib.compact l).length) 0).toArray)
    rw [← e]
    refine ⟨rfl, ?_, Go.grownBy_sortedI _⟩
    by_cases hz : l.length = 0
    · have hl : l = [] := List.eq_nil_of_length_eq_zero hz
      subst hl
      exact Go.ownsRow_sortedI (ss := []) (ts := []) rfl hb hg h1 h2 h3
    · have h5 := Go.ownsRow_sortedI (n := q) (os := #[]) (ss := l) (ts := Lib.compact l ++ List.replicate (l.length - (Lib.compact l).length) 0) (by simp; omega) hb hg h1 h2 h3
      have h6 := own_popI h5 hle (by omega)
      rw [← List.map_take, List.take_left] at h6
      exact h6
theorem infoInt : (Tryz.prog.info? 3).map (fun i => (i.zero, i.size, i.bytes)) = some (some (.int .i64 0), 1, 8) := by kernel_rfl
theorem int_parts : ∃ i, Tryz.prog.info? 3 = some i ∧ i.zero = some (.int .i64 0) ∧ i.size = 1 ∧ i.bytes = 8 := by
  have h := infoInt
  cases hi : Tryz.prog.info? 3 with
  | none => rw [hi] at h; cases h
  | some i =>
    rw [hi] at h
    simp only [Option.map_some, Option.some.injEq, Prod.mk.injEq] at h
    exact ⟨i, rfl, h.1, h.2.1, h.2.2⟩
theorem new_int {w : World} {N : Nat} {x : Int} {ty : TypeId} (hN : N = w.heap.size) : ∀ j u, (intsV [x])[j]? = some u → (w.alloc (.cells #[.int .i64 x] ty)).cell? ((⟨N, 0, none⟩ : Addr).add j) = some u := by
  intro j u hu
  subst hN
  rw [Addr.add_lit, Nat.zero_add, World.cell?_alloc_mark]
  simpa [intsV] using hu
def rhosOf (l : List At) : List Int := (l.filter fun x => decide (x.k ≠ 3)).map (·.r)
theorem rhos_step (l : List At) (x : At) : rhosOf (l ++ [x]) = rhosOf l ++ if x.k = 3 then [] else [x.r] := by
  unfold rhosOf
  rw [List.filter_append, List.map_append]
  by_cases h : x.k = 3 <;> simp [h]
theorem RdI.of_own {B n c : Nat} {W : World} {a : Option Addr} {l : List Int} (h : Ixs B W (.slice a n c) n l) (hok : ∀ x ∈ l, -9223372036854775808 ≤ x ∧ x ≤ 9223372036854775807) : RdI W n a l := by
  have hl : l.length = n := by have := h.1; unfold intsV at this; rw [List.length_map] at this; omega
  refine ⟨hl, ?_, hok⟩
  by_cases h0 : n = 0
  · left; exact List.eq_nil_of_length_eq_zero (by omega)
  · rcases h.2 with ⟨_, h0'⟩ | ⟨g, cap, cur, hv, hb, hg, h1, _⟩
    · omega
    · injection hv with hv1 hv2 hv3
      subst hv1
      refine .inr ⟨g, 0, rfl, fun i hi => ?_⟩
      have := h.cells (g := g) rfl i (.int .i64 (nget l i)) (by unfold intsV; rw [List.getElem?_map, nget_at hi]; rfl)
      rw [Addr.add_lit] at this
      exact this
set_option maxRecDepth 100000 in
set_option maxHeartbeats 6400000 in
theorem rhos_walk {n c : Nat} {p : Option Addr} {rs : List (List At)} {w : World} (hl : rs.length = n) (hn : n ≤ 1000) (hr : RowsAt w p rs) (hs : rs.flatten.length ≤ 10000) (hok : ∀ x ∈ rs.flatten, x.x.size ≤ maxLen) : Calls Tryz.prog 11 #[.slice p n c] w fun e w' => ∃ a' m c', e = .returned (.slice a' m c') ∧ m ≤ 10000 ∧ Ixs w.heap.size w' (.slice a' m c') m (tidyI (rhosOf (ofA rs.flatten))) ∧ Below w.heap.size w w' := by
  obtain ⟨i0, hi, hz0, hz2, hz3⟩ := int_parts
  have HI := Lib.hid hi; have HZ0 := Lib.hid hz0; have HZ2 := Lib.hid hz2; have HZ3 := Lib.hid hz3
  have HC := Lib.hid (union_walk n c p rs w hl (by omega) hr (by omega) hok)
  have hle := of_le rs.flatten
  have hok2 := of_ok hok
  clear hi hz0 hz2 hz3 hl hr hok
  generalize ofA rs.flatten = u at *
  have HOK := Lib.hid hok2
  obtain ⟨m, hm⟩ : ∃ m, u.length = m := ⟨_, rfl⟩
  have HUL := Lib.hid hm
  have hmn : m ≤ 10000 := by omega
  clear hok2 hle hs hm
  go_enter Tryz.func11, Tryz.ntmps11
  go_wp2_with (fail)
  refine HC.out.mono ?_
  rintro e w1 ⟨v, rfl, hr1, hb1⟩
  obtain ⟨a1, c1, rfl⟩ := hr1.slice
  rw [HUL.out]
  have HR := Lib.hid (show AtsAt w1 a1 u from hr1.at.2); have HB := Lib.hid hb1
  clear hr1 hb1
  have HS1 := Lib.hid HB.out.size
  go_wp2_with (fail)
  go_loopw [3, 5, 9] (fun own _ i wr => ∃ (j k c2 : Nat) (a2 : Option Addr), j ≤ m ∧ k ≤ j ∧ i = .int .i64 (j : Int) ∧ own = .slice a2 k c2 ∧ Hid (Ixs w1.heap.size wr (.slice a2 k c2) k (rhosOf (u.take j))) ∧ Hid (Below w1.heap.size w1 wr ∧ w.heap.size ≤ w1.heap.size) ∧ Hid (Below w.heap.size w wr)) (fun _ _ i _ => m - (intOf i).toNat)
  case atStart => exact ⟨0, 0, 0, none, Nat.zero_le _, Nat.zero_le _, rfl, rfl, Lib.hid (World.ownsRow_nil _ _ _ _), Lib.hid ⟨Below.refl _ _, HS1.out⟩, HB⟩
  case round =>
    obtain ⟨j, k, c2, a2, hj, hkj, rfl, rfl, HT, HS, HSS⟩ := hrel
    by_cases hlt : j < m
    · have hjl : j < u.length := by rw [HUL.out]; exact hlt
      obtain ⟨b, o, rfl, e0, e1, e2⟩ := (HR.out.below HS.out.1).get j hjl
      have hx := HOK.out _ (aget_mem hjl)
      have htk := at_take u j hjl
      generalize aget u j = x at *
      have HX := Lib.hid hx; have HTK := Lib.hid htk
      have HCT := Lib.hid fun W => inRegion_walk x W
      clear hx htk hjl
      go_wp2_with (fail)
      refine (HCT.out _).mono ?_
      rintro e w2 ⟨rfl, hb2⟩
      have hB2 : Below wr.heap.size wr w2 := (al_new _).trans (hb2.mono (by simp))
      have HT2 := Lib.hid (own_below HT.out hB2); have HS2 := Lib.hid (below_then HS.out.1 hB2 HS.out.1.size); have HSS2 := Lib.hid (below_then HSS.out hB2 HSS.out.size)
      obtain ⟨⟨x0, x1, x2⟩, -, -⟩ := c3 ((hb2.block wr.heap.size (by simp)).trans (heap_alloc_new wr _))
      clear hb2 hB2 e0 e1 e2
      by_cases hk : x.k ≠ 3
      · rw [show decide (x.k ≠ 3) = true from decide_eq_true hk]
        have HK := Lib.hid hk
        clear hk
        go_wp2_with (at_builtin; refine wpList_append_own_at _ rfl (.tmp 15) (.tmp 18) 30 rfl w1.heap.size 3 i0 _ 1 8 Tryz.underlying30 HI.out HZ0.out HZ2.out HZ3.out rfl (by omega) (.slice a2 k c2) k (intsV (rhosOf (u.take j))) rfl (own_below HT2.out (al_new _)) _ 1 1 (intsV [x.r]) rfl rfl (new_int rfl) (by simp [intsV, Value.oneCell']) (by unfold maxLen; omega) (by omega) (by have := HS2.out.size; simp; omega) ?_; intro v' w3 hown hgr hnil hat; obtain ⟨a3, c3', rfl, -, -⟩ := own_slice hown; have HT3 := Lib.hid hown; have HSS3 := Lib.hid ((below_then HSS2.out (al_new _) HSS2.out.size).grown hgr (by have := HSS2.out.size; simp; omega) fun g hg => Nat.le_trans HS1.out (HT2.out.lt g hg).1); have HS3 := Lib.hid (And.intro ((below_then HS2.out (al_new _) HS2.out.size).grown hgr (by have := HS2.out.size; simp; omega) fun g hg => (HT2.out.lt g hg).1) HS.out.2); clear hown hgr hnil hat)
        go_roundw
        case rel => exact ⟨j + 1, k + 1, c3', a3, by omega, by omega, by go_num, rfl, Lib.hid (by have := HT3.out; unfold Ixs; rw [HTK.out, rhos_step, if_neg HK.out]; show World.ownsRow _ _ _ _ _ _ (intsV _); unfold intsV at this ⊢; rw [List.map_append]; exact this), HS3, HSS3⟩
        case measure => simp [intOf]; omega
      · rw [show decide (x.k ≠ 3) = false from decide_eq_false hk]
        have HK := Lib.hid (show x.k = 3 from Classical.not_not.1 hk)
        clear hk
        go_wp2_with (fail)
        go_roundw
        case rel => exact ⟨j + 1, k, c2, a2, by omega, by omega, by go_num, rfl, Lib.hid (by rw [HTK.out, rhos_step, if_pos HK.out, List.append_nil]; exact HT2.out), Lib.hid ⟨HS2.out, HS.out.2⟩, HSS2⟩
        case measure => simp [intOf]; omega
    · obtain rfl : j = m := by omega
      have ht := HT.out
      rw [List.take_of_length_le (by rw [HUL.out]; exact Nat.le_refl _)] at ht
      have HT' := Lib.hid ht
      have HSO := Lib.hid (sortI_walk _ k c2 a2 _ wr ht (by omega))
      clear ht
      go_wp2_with (fail)
      refine HSO.out.mono ?_
      rintro e w3 ⟨rfl, hs3, hg3⟩
      have HB3 := Lib.hid (HSS.out.grown hg3 HSS.out.size fun g hg => Nat.le_trans HS1.out (HT'.out.lt g hg).1)
      have HCO := Lib.hid (compactI_walk _ k c2 a2 _ w3 hs3 (by omega))
      have HS3' := Lib.hid hs3
      have hle := Lib.compact_length_le ((rhosOf u).mergeSort fun x y => decide (x ≤ y))
      have hlk : ((rhosOf u).mergeSort fun x y => decide (x ≤ y)).length = k := by have := hs3.1; unfold intsV at this; rw [List.length_map] at this; omega
      rw [hlk] at hle
      generalize hq : (Lib.compact ((rhosOf u).mergeSort fun x y => decide (x ≤ y))).length = q at *
      have HQ := Lib.hid hq
      clear hs3 hg3 hlk hq
      go_wp2_with (fail)
      refine HCO.out.mono ?_
      rintro e w4 ⟨rfl, hs4, hg4⟩
      have HB4 := Lib.hid (HB3.out.grown hg4 HB3.out.size fun g hg => Nat.le_trans HS1.out (HS3'.out.lt g hg).1)
      have HS4 := Lib.hid hs4
      clear hs4 hg4
      go_wp2_with (fail)
      go_ret
      exact ⟨a2, q, c2, rfl, by omega, own_lower HS4.out HS1.out, HB4.out⟩
end Effect
end Go.Proofs.YtggabjmfdnfckaaGreatDoor
