/- Rows of atoms, one behind the other. -/
import Derived.Test.YtggabjmfdnfckaaGreatDoorEfGrow
import Derived.Deep.Upon
namespace Go.Proofs.YtggabjmfdnfckaaGreatDoor
open Go.RowKit Go.Sort Go.Shelf Go.Lib
set_option linter.unusedVariables false
set_option linter.unusedSimpArgs false
namespace Effect

def rget (rs : List (List At)) (i : Nat) : List At := rs.getD i []
theorem rget_at {rs : List (List At)} {i : Nat} (h : i < rs.length) : rs[i]? = some (rget rs i) := by
  unfold rget; rw [List.getD_eq_getElem?_getD, List.getElem?_eq_getElem h]; rfl
theorem rget_mem {rs : List (List At)} {i : Nat} (h : i < rs.length) : rget rs i ∈ rs := List.mem_of_getElem? (rget_at h)
theorem rtake (rs : List (List At)) (j : Nat) (hj : j < rs.length) : (rs.take (j + 1)).flatten = (rs.take j).flatten ++ rget rs j := by
  rw [List.take_add_one, rget_at hj, List.flatten_append]; simp
theorem rtake_le (rs : List (List At)) (j : Nat) : (rs.take j).flatten.length ≤ rs.flatten.length := by
  have := List.take_append_drop j rs
  have h : rs.flatten = (rs.take j).flatten ++ (rs.drop j).flatten := by rw [← List.flatten_append, this]
  rw [h, List.length_append]; omega
/-- Rows of atoms in memory. -/
def RowsAt (w : World) (p : Option Addr) (rs : List (List At)) : Prop := rs = [] ∨ ∃ b o, p = some ⟨b, o, none⟩ ∧ ∀ i, i < rs.length → ∃ q c, w.cell? ⟨b, o + i, none⟩ = some (.slice q (rget rs i).length c) ∧ AtsAt w q (rget rs i)
theorem RowsAt.below {w W : World} {p : Option Addr} {rs : List (List At)} (h : RowsAt w p rs) (hb : Below w.heap.size w W) : RowsAt W p rs := by
  refine h.imp id ?_
  rintro ⟨b, o, hp, hc⟩
  refine ⟨b, o, hp, fun i hi => ?_⟩
  obtain ⟨q, c, h1, h2⟩ := hc i hi
  exact ⟨q, c, (hb.cell (p := ⟨b, _, none⟩) (World.block_lt_of_cell? w _ h1)).trans h1, h2.below hb⟩
theorem RowsAt.get {w : World} {p : Option Addr} {rs : List (List At)} (h : RowsAt w p rs) (i : Nat) (hi : i < rs.length) : ∃ b o q c, p = some ⟨b, o, none⟩ ∧ w.cell? ⟨b, o + i, none⟩ = some (.slice q (rget rs i).length c) ∧ AtsAt w q (rget rs i) := by
  rcases h with rfl | ⟨b, o, hp, hc⟩
  · simp at hi
  · obtain ⟨q, c, h1, h2⟩ := hc i hi
    exact ⟨b, o, q, c, hp, h1, h2⟩
theorem AtsAt.cells {w : World} {b o : Nat} {l : List At} (h : AtsAt w (some ⟨b, o, none⟩) l) : ∀ j u, (flat l)[j]? = some u → w.cell? ((⟨b, o, none⟩ : Addr).add j) = some u := by
  intro j u hu
  have hj : j < l.length * 3 := by
    rcases Nat.lt_or_ge j (flat l).length with q | q
    · rw [flat_len] at q; exact q
    · rw [List.getElem?_eq_none q] at hu; cases hu
  have hi : j / 3 < l.length := by omega
  rcases h with rfl | ⟨b', o', hp, hc⟩
  · simp at hi
  · injection hp with hp
    injection hp with h1 h2 h3
    subst h1 h2
    obtain ⟨e0, e1, e2⟩ := hc (j / 3) hi
    have hf := flat_get l (j / 3) hi (j % 3) (Nat.mod_lt j (by omega))
    rw [show j / 3 * 3 + j % 3 = j by omega, hu] at hf
    rw [Addr.add_lit]
    rcases (by omega : j % 3 = 0 ∨ j % 3 = 1 ∨ j % 3 = 2) with q | q | q
    · rw [q] at hf; simp [enc] at hf; rw [show o + j = o + j / 3 * 3 by omega, e0, hf]
    · rw [q] at hf; simp [enc] at hf; rw [show o + j = o + j / 3 * 3 + 1 by omega, e1, hf]
    · rw [q] at hf; simp [enc] at hf; rw [show o + j = o + j / 3 * 3 + 2 by omega, e2, hf]
theorem append_row {B m c1 l c : Nat} {W : World} {a1 q : Option Addr} {xs k : List At} (h : Row B W (.slice a1 m c1) xs) (hm : m = xs.length) (hl : l = k.length) (hk : AtsAt W q k) (hn : m + l ≤ 100000) (hB : B ≤ W.heap.size) :
    ∃ a' c' w', (∀ ty, (Builtin.append_ #[25, 25] ty #[.slice a1 m c1, .slice q l c]).run Tryz.prog W = .ok (.slice a' (m + l) c') w') ∧ Row B w' (.slice a' (m + l) c') (xs ++ k) ∧ W.grownBy w' (Value.slice a1 m c1).ownBlock := by
  subst hm hl
  obtain ⟨i0, hi, hz0, hz2, hz3⟩ := info_parts
  have hlen : (xs ++ k).length = xs.length + k.length := List.length_append
  by_cases h0 : k = []
  · subst h0
    have hcap : xs.length ≤ c1 := by obtain ⟨a, c, e, _, h2⟩ := own_slice h; injection e with e1 e2 e3; omega
    refine ⟨a1, c1, W, fun ty => ?_, by rw [List.append_nil]; exact h, ⟨rfl, rfl, rfl, Nat.le_refl _, fun _ _ _ => rfl⟩⟩
    cases a1 <;> cases q <;> simp [Builtin.append_, run_underlying Tryz.underlying25, sizeOf, typeInfo, hi, hcap, Builtin.firstCells, Builtin.lenOf, Go.loadCells, loadCells, loadCellsFrom, storeCells]
  · have hpos : 0 < k.length := List.length_pos_iff.2 h0
    rcases hk with hk0 | ⟨b, o, rfl, hc⟩
    · exact absurd hk0 h0
    · obtain ⟨v', w', hr, ho, hg, _, _⟩ := run_append_own_at (P := Tryz.prog) W B 25 0 47 i0 _ 3 32 Tryz.underlying25 hi hz0 hz2 hz3 rfl (by omega) (.slice a1 xs.length c1) xs.length (flat xs) h ⟨b, o, none⟩ k.length c (flat k) (flat_len k) (AtsAt.cells (.inr ⟨b, o, rfl, hc⟩)) (flat_one k) (by unfold maxLen; omega) (by omega) hB
      obtain ⟨a', c', rfl, _, _⟩ := own_slice ho
      refine ⟨a', c', w', fun ty => hr, ?_, hg⟩
      unfold Row
      rw [flat_append, hlen]
      exact ho
set_option maxRecDepth 100000 in
set_option maxHeartbeats 6400000 in
theorem concat_walk (n c : Nat) (p : Option Addr) (rs : List (List At)) (w : World) (hl : rs.length = n) (hn : n ≤ 100000) (hr : RowsAt w p rs) (hs : rs.flatten.length ≤ 100000) :
    Calls Tryz.prog 27 #[.slice p n c] w fun e w' => ∃ v, e = .returned v ∧ Row w.heap.size w' v rs.flatten ∧ Below w.heap.size w w' := by
  have HL := Lib.hid hl; have HR := Lib.hid hr; have HS := Lib.hid hs
  clear hl hr hs
  go_enter Tryz.func27, Tryz.ntmps27
  go_wp2_with (fail)
  go_loopw [3, 5, 11] (fun s3 _ i wr => ∃ j m : Nat, j ≤ n ∧ m ≤ 100000 ∧ i = .int .i64 (j : Int) ∧ s3 = .int .i64 (m : Int) ∧ Hid (m = (rs.take j).flatten.length) ∧ Hid (wr = w)) (fun _ _ i _ => n - (intOf i).toNat)
  case atStart => exact ⟨0, 0, Nat.zero_le _, Nat.zero_le _, rfl, rfl, Lib.hid (by simp), Lib.hid rfl⟩
  case round =>
    obtain ⟨j, m, hj, hm, rfl, rfl, HM, HW⟩ := hrel
    by_cases hlt : j < n
    · have hjl : j < rs.length := by rw [HL.out]; exact hlt
      obtain ⟨b, o, q, c', rfl, e0, -⟩ := HR.out.get j hjl
      rw [← HW.out] at e0
      have hm2 : (rs.take (j + 1)).flatten.length = m + (rget rs j).length := by rw [rtake rs j hjl, List.length_append, HM.out]
      have hle := rtake_le rs (j + 1)
      generalize (rget rs j).length = d at *
      have hmd : m + d ≤ 100000 := by have := HS.out; omega
      have HM2 := Lib.hid hm2
      clear hm2 hle hjl
      go_wp2_with (fail)
      go_roundw
      case rel => exact ⟨j + 1, m + d, by omega, hmd, by go_num, by go_num, Lib.hid HM2.out.symm, HW⟩
      case measure => simp [intOf]; omega
    · obtain rfl : j = n := by omega
      have hall : m = rs.flatten.length := by have := HM.out; rw [List.take_of_length_le (by rw [HL.out]; exact Nat.le_refl _)] at this; exact this
      have HALL := Lib.hid hall
      have hwr := HW.out
      subst hwr
      have HG := Lib.hid (grow_walk m wr hm)
      clear hall HM HW
      go_wp2_with (fail)
      refine HG.out.mono ?_
      rintro e w1 ⟨v, rfl, hrow, hb1⟩
      have HR1 := Lib.hid hrow; have HB1 := Lib.hid hb1
      obtain ⟨a1, c1, rfl⟩ := hrow.slice
      clear hrow hb1
      go_wp2_with (fail)
      go_loopw [6, 8, 27] (fun own _ i w2 => ∃ (k m2 c2 : Nat) (a2 : Option Addr), k ≤ j ∧ m2 ≤ m ∧ i = .int .i64 (k : Int) ∧ own = .slice a2 m2 c2 ∧ Hid (m2 = (rs.take k).flatten.length) ∧ Hid (Row wr.heap.size w2 (.slice a2 m2 c2) (rs.take k).flatten) ∧ Hid (Below wr.heap.size wr w2)) (fun _ _ i _ => j - (intOf i).toNat)
      case atStart => exact ⟨0, 0, c1, a1, Nat.zero_le _, Nat.zero_le _, rfl, rfl, Lib.hid (by simp), HR1, HB1⟩
      case round =>
        rename_i w2
        obtain ⟨k, m2, c2, a2, hk, hm2, rfl, rfl, HM2, HR2, HB2⟩ := hrel
        by_cases hlt2 : k < j
        · have hkl : k < rs.length := by rw [HL.out]; exact hlt2
          obtain ⟨b, o, q, c', rfl, e0, hq⟩ := (HR.out.below HB2.out).get k hkl
          have hm3 : (rs.take (k + 1)).flatten.length = m2 + (rget rs k).length := by rw [rtake rs k hkl, List.length_append, HM2.out]
          have hle := rtake_le rs (k + 1)
          have HT := Lib.hid (rtake rs k hkl)
          generalize rget rs k = row at *
          obtain ⟨d, hd⟩ : ∃ d, row.length = d := ⟨_, rfl⟩
          rw [hd] at e0 hm3
          have hmd : m2 + d ≤ m := by have := HALL.out; omega
          obtain ⟨a3, c3', w3, hrun, hrow3, hg3⟩ := append_row (c := c') HR2.out HM2.out hd.symm hq (by omega) HB2.out.size
          have HM3 := Lib.hid hm3; have HRUN := Lib.hid hrun; have HR3 := Lib.hid hrow3; have HB3 := Lib.hid (HR2.out.grown HB2.out hg3 HB2.out.size)
          clear hm3 hle hkl hrun hrow3 hg3 hq hd
          go_wp2_with (at_builtin; refine wpList_append_made rfl (.tmp 31) (.tmp 32) 25 25 rfl (.slice a2 m2 c2) (.slice q d c') _ rfl rfl HRUN.out ?_)
          go_roundw
          case rel => exact ⟨k + 1, m2 + d, c3', a3, by omega, hmd, by go_num, rfl, Lib.hid HM3.out.symm, Lib.hid (by rw [HT.out]; exact HR3.out), HB3⟩
          case measure => simp [intOf]; omega
        · obtain rfl : k = j := by omega
          have hr := HR2.out
          rw [List.take_of_length_le (by rw [HL.out]; exact Nat.le_refl _)] at hr
          have HR' := Lib.hid hr
          clear hr
          go_wp2_with (fail)
          go_ret
          exact ⟨_, rfl, HR'.out, HB2.out⟩
end Effect
end Go.Proofs.YtggabjmfdnfckaaGreatDoor
