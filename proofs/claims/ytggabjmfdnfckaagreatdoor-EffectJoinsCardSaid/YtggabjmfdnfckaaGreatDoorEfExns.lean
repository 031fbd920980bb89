/- Exceptions of rows; is a number in a row; the walk of EffectParts. -/
import Derived.Test.YtggabjmfdnfckaaGreatDoorEfDrop
namespace Go.Proofs.YtggabjmfdnfckaaGreatDoor
open Go.RowKit
set_option linter.unusedVariables false
set_option linter.unusedSimpArgs false
namespace Effect

def exnsOf (l : List At) : List ByteArray := (l.filter fun x => decide (x.k = 3)).map (·.x)
theorem exns_step (l : List At) (x : At) : exnsOf (l ++ [x]) = exnsOf l ++ if x.k = 3 then [x.x] else [] := by
  unfold exnsOf
  rw [List.filter_append, List.map_append]
  by_cases h : x.k = 3 <;> simp [h]
theorem exns_le (l : List At) : (exnsOf l).length ≤ l.length := by unfold exnsOf; rw [List.length_map]; exact List.length_filter_le _ _
theorem rows_one {W : World} {N : Nat} {a : Option Addr} {la ca : Nat} {l : List At} {ty : TypeId} (h : W.heap[N]? = some (.cells #[.slice a la ca] ty (0, 0))) (h1 : la = l.length) (ha : AtsAt W a l) : RowsAt W (some ⟨N, 0, none⟩) [l] := by
  subst h1
  refine .inr ⟨N, 0, rfl, fun i hi => ?_⟩
  match i, hi with
  | 0, _ => exact ⟨a, ca, by simp [World.cell?, h, rget], ha⟩
theorem RdS.of_txs {B n c : Nat} {W : World} {a : Option Addr} {ss : List ByteArray} (h : Txs B W (.slice a n c) n ss) : RdS W n a ss := by
  have hl : ss.length = n := by have := h.1; unfold strsV at this; rw [List.length_map] at this; omega
  refine ⟨hl, ?_⟩
  by_cases h0 : n = 0
  · left; exact List.eq_nil_of_length_eq_zero (by omega)
  · obtain ⟨g, rfl, _, _, hc⟩ := tx_cells h (by omega)
    refine .inr ⟨g, 0, rfl, fun i hi => hc i _ ?_⟩
    rw [List.getD_eq_getElem?_getD, List.getElem?_eq_getElem hi]; rfl
set_option maxRecDepth 100000 in
set_option maxHeartbeats 6400000 in
theorem exns_walk {n c : Nat} {p : Option Addr} {rs : List (List At)} {w : World} (hl : rs.length = n) (hn : n ≤ 1000) (hr : RowsAt w p rs) (hs : rs.flatten.length ≤ 10000) (hok : ∀ x ∈ rs.flatten, x.x.size ≤ maxLen) : Calls Tryz.prog 14 #[.slice p n c] w fun e w' => ∃ a' m c', e = .returned (.slice a' m c') ∧ m ≤ 10000 ∧ Txs w.heap.size w' (.slice a' m c') m (exnsOf (ofA rs.flatten)) ∧ Below w.heap.size w w' := by
  obtain ⟨i0, hi, hz0, hz2, hz3⟩ := str_parts
  have HI := Lib.hid hi; have HZ0 := Lib.hid hz0; have HZ2 := Lib.hid hz2; have HZ3 := Lib.hid hz3
  have HC := Lib.hid (union_walk n c p rs w hl (by omega) hr (by omega) hok)
  have hle := of_le rs.flatten
  have hok2 := of_ok hok
  clear hi hz0 hz2 hz3 hl hr hok
  generalize ofA rs.flatten = u at *
  have HOK := Lib.hid hok2
  obtain ⟨m, hm⟩ : ∃ m, u.length = m := ⟨_, rfl⟩
  have HUL := Lib.hid hm
  have hmn : m ≤ 10000 := by omega
  clear hok2 hle hs hm
  go_enter Tryz.func14, Tryz.ntmps14
  go_wp2_with (fail)
  refine HC.out.mono ?_
  rintro e w1 ⟨v, rfl, hr1, hb1⟩
  obtain ⟨a1, c1, rfl⟩ := hr1.slice
  rw [HUL.out]
  have HR := Lib.hid (show AtsAt w1 a1 u from hr1.at.2); have HB := Lib.hid hb1
  clear hr1 hb1
  have HS1 := Lib.hid HB.out.size
  go_wp2_with (fail)
  go_loopw [3, 5, 9] (fun own _ i wr => ∃ (j k c2 : Nat) (a2 : Option Addr), j ≤ m ∧ k ≤ j ∧ i = .int .i64 (j : Int) ∧ own = .slice a2 k c2 ∧ Hid (Txs w1.heap.size wr (.slice a2 k c2) k (exnsOf (u.take j))) ∧ Hid (Below w1.heap.size w1 wr ∧ w.heap.size ≤ w1.heap.size) ∧ Hid (Below w.heap.size w wr)) (fun _ _ i _ => m - (intOf i).toNat)
  case atStart => exact ⟨0, 0, 0, none, Nat.zero_le _, Nat.zero_le _, rfl, rfl, Lib.hid (World.ownsRow_nil _ _ _ _), Lib.hid ⟨Below.refl _ _, HS1.out⟩, HB⟩
  case round =>
    obtain ⟨j, k, c2, a2, hj, hkj, rfl, rfl, HT, HS, HSS⟩ := hrel
    by_cases hlt : j < m
    · have hjl : j < u.length := by rw [HUL.out]; exact hlt
      obtain ⟨b, o, rfl, e0, e1, e2⟩ := (HR.out.below HS.out.1).get j hjl
      have hx := HOK.out _ (aget_mem hjl)
      have htk := at_take u j hjl
      generalize aget u j = x at *
      have HX := Lib.hid hx; have HTK := Lib.hid htk
      have HCT := Lib.hid fun W => inRegion_walk x W
      clear hx htk hjl
      go_wp2_with (fail)
      refine (HCT.out _).mono ?_
      rintro e w2 ⟨rfl, hb2⟩
      have hB2 : Below wr.heap.size wr w2 := (al_new _).trans (hb2.mono (by simp))
      have HT2 := Lib.hid (own_belowS HT.out hB2); have HS2 := Lib.hid (below_then HS.out.1 hB2 HS.out.1.size); have HSS2 := Lib.hid (below_then HSS.out hB2 HSS.out.size)
      obtain ⟨⟨x0, x1, x2⟩, -, -⟩ := c3 ((hb2.block wr.heap.size (by simp)).trans (heap_alloc_new wr _))
      clear hb2 hB2 e0 e1 e2
      by_cases hk : x.k = 3
      · rw [show decide (x.k ≠ 3) = false from decide_eq_false fun e => e hk]
        have HK := Lib.hid hk
        clear hk
        go_wp2_with (at_builtin; refine wpList_append_own_at _ rfl (.tmp 16) (.tmp 19) 34 rfl w1.heap.size 9 i0 _ 1 16 Tryz.underlying34 HI.out HZ0.out HZ2.out HZ3.out rfl (by omega) (.slice a2 k c2) k (strsV (exnsOf (u.take j))) rfl (own_belowS HT2.out (al_new _)) _ 1 1 (strsV [x.x]) rfl rfl (new_str rfl) (by simp [strsV, Value.oneCell']) (by unfold maxLen; omega) (by omega) (by have := HS2.out.size; simp; omega) ?_; intro v' w3 hown hgr hnil hat; obtain ⟨a3, c3', rfl, -, -⟩ := own_slice hown; have HT3 := Lib.hid hown; have HSS3 := Lib.hid ((below_then HSS2.out (al_new _) HSS2.out.size).grown hgr (by have := HSS2.out.size; simp; omega) fun g hg => Nat.le_trans HS1.out (HT2.out.lt g hg).1); have HS3 := Lib.hid (And.intro ((below_then HS2.out (al_new _) HS2.out.size).grown hgr (by have := HS2.out.size; simp; omega) fun g hg => (HT2.out.lt g hg).1) HS.out.2); clear hown hgr hnil hat)
        go_roundw
        case rel => exact ⟨j + 1, k + 1, c3', a3, by omega, by omega, by go_num, rfl, Lib.hid (by have := HT3.out; unfold Txs; rw [HTK.out, exns_step, if_pos HK.out]; show World.ownsRow _ _ _ _ _ _ (strsV _); unfold strsV at this ⊢; rw [List.map_append]; exact this), HS3, HSS3⟩
        case measure => simp [intOf]; omega
      · rw [show decide (x.k ≠ 3) = true from decide_eq_true hk]
        have HK := Lib.hid hk
        clear hk
        go_wp2_with (fail)
        go_roundw
        case rel => exact ⟨j + 1, k, c2, a2, by omega, by omega, by go_num, rfl, Lib.hid (by rw [HTK.out, exns_step, if_neg HK.out, List.append_nil]; exact HT2.out), Lib.hid ⟨HS2.out, HS.out.2⟩, HSS2⟩
        case measure => simp [intOf]; omega
    · obtain rfl : j = m := by omega
      have ht := HT.out
      rw [List.take_of_length_le (by rw [HUL.out]; exact Nat.le_refl _)] at ht
      have HT' := Lib.hid ht
      clear ht
      go_wp2_with (fail)
      go_ret
      exact ⟨a2, k, c2, rfl, by omega, own_lower HT'.out HS1.out, HSS.out⟩
set_option maxHeartbeats 6400000 in
theorem refInts_walk {n c : Nat} {a : Option Addr} {l : List Int} {w : World} (h : RdI w n a l) (hn : n ≤ 100000) (x : Int) : Calls Tryz.prog 21 #[.slice a n c, .int .i64 x] w fun e w' => e = .returned (.bool (l.contains x)) ∧ w' = w := by
  have H := Lib.hid h
  clear h
  go_enter Tryz.func21, Tryz.ntmps21
  go_wp2_with (fail)
  go_loopw [5, 8] (fun _ i wr => ∃ j : Nat, j ≤ n ∧ i = .int .i64 (j : Int) ∧ Hid (wr = w) ∧ Hid (∀ i, i < j → nget l i ≠ x)) (fun _ i _ => n - (intOf i).toNat)
  case atStart => exact ⟨0, Nat.zero_le _, rfl, Lib.hid rfl, Lib.hid (fun i hi => absurd hi (Nat.not_lt_zero _))⟩
  case round =>
    obtain ⟨j, hj, rfl, HW, HA⟩ := hrel
    by_cases hlt : j < n
    · have hjl : j < l.length := by rw [H.out.len]; exact hlt
      obtain ⟨b1, o1, rfl, e0⟩ := H.out.get j hjl
      rw [← HW.out] at e0
      by_cases hx : nget l j = x
      · have HC := Lib.hid (show l.contains x = true by simp; rw [← hx]; exact nget_mem hjl)
        rw [hx] at e0
        have hxx : (x == x) = true := by simp
        clear hx hjl
        go_wp2_with (fail)
        go_ret
        exact ⟨ret_bool HC.out.symm, HW.out⟩
      · have hxx : (nget l j == x) = false := by simpa using hx
        have HX := Lib.hid hx
        clear hx hjl
        go_wp2_with (fail)
        go_roundw
        case rel => exact ⟨j + 1, by omega, by go_num, HW, Lib.hid fun i hi => by
            by_cases e : i = j
            · rw [e]; exact HX.out
            · exact HA.out i (by omega)⟩
        case measure => simp [intOf]; omega
    · obtain rfl : j = n := by omega
      have HC := Lib.hid (show l.contains x = false by
        rw [Bool.eq_false_iff]
        intro hc
        have hmem : x ∈ l := by simpa using hc
        obtain ⟨i, hi, e⟩ := List.mem_iff_getElem.1 hmem
        refine HA.out i (by rw [← H.out.len]; exact hi) ?_
        have := nget_at hi
        rw [List.getElem?_eq_getElem hi, e] at this
        exact (Option.some.inj this).symm)
      go_wp2_with (fail)
      go_ret
      exact ⟨ret_bool HC.out.symm, HW.out⟩
end Effect
end Go.Proofs.YtggabjmfdnfckaaGreatDoor
