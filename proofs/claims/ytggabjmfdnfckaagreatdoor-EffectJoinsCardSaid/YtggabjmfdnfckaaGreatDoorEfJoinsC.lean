/- The document's PutInt, Rhos and Exns. -/
import Derived.Test.YtggabjmfdnfckaaGreatDoorEfJoinsB
namespace Go.Proofs.YtggabjmfdnfckaaGreatDoor
open Go.RowKit
set_option linter.unusedVariables false
set_option linter.unusedSimpArgs false
namespace Effect

theorem insI_no {x : Int} : ∀ {l : List Int}, (∀ y ∈ l, ¬ x < y) → insI x l = l ++ [x]
  | [], _ => rfl
  | y :: l, h => by
    unfold insI
    rw [if_neg (h y (by simp)), insI_no fun z hz => h z (by simp [hz])]
    rfl
theorem insI_at {x z : Int} : ∀ {l : List Int}, (∀ y ∈ l, ¬ x < y) → x < z → insI x (l ++ [z]) = l ++ [x] ++ [z]
  | [], _, hz => by simp [insI, hz]
  | y :: l, h, hz => by
    rw [List.cons_append]
    unfold insI
    rw [if_neg (h y (by simp)), insI_at (fun z hz => h z (by simp [hz])) hz]
    rfl
theorem insI_yes {x : Int} {m : List Int} : ∀ {l : List Int}, (∃ y ∈ l, x < y) → insI x (l ++ m) = insI x l ++ m
  | [], h => by obtain ⟨y, hy, _⟩ := h; cases hy
  | y :: l, h => by
    rw [List.cons_append]
    unfold insI
    split
    · rfl
    · rename_i hn
      rw [insI_yes (l := l) (by
        obtain ⟨z, hz, h1⟩ := h
        rcases List.mem_cons.1 hz with rfl | hz
        · exact absurd h1 hn
        · exact ⟨z, hz, h1⟩)]
      rfl
def InsI (x : Int) (d : Bool) (l o : List Int) : Prop := (d = false ∧ o = l ∧ ∀ y ∈ l, ¬ x < y) ∨ (d = true ∧ o = insI x l ∧ ∃ y ∈ l, x < y)
theorem InsI.len_no {x : Int} {l o : List Int} (h : InsI x false l o) : o.length = l.length := by
  rcases h with ⟨_, rfl, _⟩ | ⟨h, _⟩
  · rfl
  · cases h
theorem InsI.step_no {x z : Int} {l o : List Int} (h : InsI x false l o) (hz : ¬ x < z) : InsI x false (l ++ [z]) (o ++ [z]) := by
  rcases h with ⟨_, rfl, h⟩ | ⟨h, _⟩
  · exact .inl ⟨rfl, rfl, fun y hy => by
      rcases List.mem_append.1 hy with hy | hy
      · exact h y hy
      · rw [List.mem_singleton] at hy; rw [hy]; exact hz⟩
  · cases h
theorem InsI.step_at {x z : Int} {l o : List Int} (h : InsI x false l o) (hz : x < z) : InsI x true (l ++ [z]) (o ++ [x] ++ [z]) := by
  rcases h with ⟨_, rfl, h⟩ | ⟨h, _⟩
  · exact .inr ⟨rfl, (insI_at h hz).symm, z, by simp, hz⟩
  · cases h
theorem InsI.step_yes {x z : Int} {l o : List Int} (h : InsI x true l o) : InsI x true (l ++ [z]) (o ++ [z]) := by
  rcases h with ⟨h, _⟩ | ⟨_, rfl, h⟩
  · cases h
  · refine .inr ⟨rfl, (insI_yes h).symm, ?_⟩
    obtain ⟨y, hy, h1⟩ := h
    exact ⟨y, by simp [hy], h1⟩
theorem InsI.end_no {x : Int} {l o : List Int} (h : InsI x false l o) : o ++ [x] = insI x l := by
  rcases h with ⟨_, rfl, h⟩ | ⟨h, _⟩
  · exact (insI_no h).symm
  · cases h
theorem InsI.end_yes {x : Int} {l o : List Int} (h : InsI x true l o) : o = insI x l := by
  rcases h with ⟨h, _⟩ | ⟨_, h, _⟩
  · cases h
  · exact h
theorem ixs_new {B : Nat} {w : World} (hB : B ≤ w.heap.size) : Ixs B (w.alloc (.cells #[] 3)) (.slice (some ⟨w.heap.size, 0, none⟩) 0 0) 0 [] :=
  ⟨rfl, .inr ⟨w.heap.size, 0, #[], rfl, hB, heap_alloc_new w _, Nat.le_refl _, by unfold maxLen; omega, rfl, rfl⟩⟩
theorem ixs_len {B n : Nat} {w : World} {v : Value} {l : List Int} (h : Ixs B w v n l) : l.length = n := by
  have := h.1; unfold intsV at this; rw [List.length_map] at this; omega
theorem Ixs.push {B m : Nat} {w' : World} {v' : Value} {l : List Int} {x : Int} (h : w'.ownsRow B 3 1 v' (m + 1) (intsV l ++ intsV [x])) : Ixs B w' v' (m + 1) (l ++ [x]) := by
  unfold Ixs intsV at *
  rw [List.map_append]
  exact h
set_option maxRecDepth 100000 in
set_option maxHeartbeats 12800000 in
theorem refPutInt_walk {B n c : Nat} {a : Option Addr} {l : List Int} {x : Int} {w : World} (h : Ixs B w (.slice a n c) n l) (hB : B ≤ w.heap.size) (hok : ∀ y ∈ l, -9223372036854775808 ≤ y ∧ y ≤ 9223372036854775807) (hn : n ≤ 10000) : Calls Tryz.prog 32 #[.slice a n c, .int .i64 x] w fun e w' => ∃ a' m c', e = .returned (.slice a' m c') ∧ m ≤ n + 1 ∧ Ixs B w' (.slice a' m c') m (putI l x) ∧ Below w.heap.size w w' := by
  have hll := ixs_len h
  have hrd := RdI.of_own h hok
  obtain ⟨i0, hi, hz0, hz2, hz3⟩ := int_parts
  have HI := Lib.hid hi; have HZ0 := Lib.hid hz0; have HZ2 := Lib.hid hz2; have HZ3 := Lib.hid hz3
  have H := Lib.hid h; have HR := Lib.hid hrd; have HB := Lib.hid hB
  have HIN := Lib.hid (refInts_walk (c := c) hrd (by omega) x)
  clear h hB hok hrd hi hz0 hz2 hz3 hll
  go_enter Tryz.func32, Tryz.ntmps32
  go_wp2_with (fail)
  refine HIN.out.mono ?_
  rintro e w ⟨rfl, rfl⟩
  cases hin : l.contains x with
  | true =>
    have HIN2 := Lib.hid hin
    clear hin HIN
    go_wp2_with (fail)
    go_ret
    exact ⟨a, n, c, rfl, by omega, by unfold putI; rw [if_pos HIN2.out]; exact H.out, Below.refl _ _⟩
  | false =>
    have HIN2 := Lib.hid hin
    clear hin HIN
    go_wp2_with (fail)
    go_loopw [5, 6, 7, 15] (fun own dn _ i wr => ∃ (j m c1 : Nat) (a1 : Option Addr) (d : Bool) (o : List Int), j ≤ n ∧ m ≤ j + 1 ∧ i = .int .i64 (j : Int) ∧ dn = .bool d ∧ own = .slice a1 m c1 ∧ Hid (InsI x d (l.take j) o) ∧ Hid (Ixs w.heap.size wr (.slice a1 m c1) m o) ∧ Hid (Below w.heap.size w wr)) (fun _ _ _ i _ => n - (intOf i).toNat)
    case atStart => exact ⟨0, 0, 0, some ⟨w.heap.size, 0, none⟩, false, [], Nat.zero_le _, Nat.zero_le _, rfl, rfl, rfl, Lib.hid (.inl ⟨rfl, by simp, by simp⟩), Lib.hid (ixs_new (Nat.le_refl _)), Lib.hid (al_new _)⟩
    case round =>
      obtain ⟨j, m, c1, a1, d, o, hj, hmj, rfl, rfl, rfl, HIA, HRW, HS⟩ := hrel
      by_cases hlt : j < n
      · have hjl : j < l.length := by rw [HR.out.len]; exact hlt
        obtain ⟨b, p, rfl, eb⟩ := HR.out.get j hjl
        have hbl := World.block_lt_of_cell? w _ eb
        have htk := ints_take l j hjl
        generalize nget l j = z at *
        have HTK := Lib.hid htk; have HE := Lib.hid eb; have HBL := Lib.hid hbl
        have e0 := (HS.out.cell (p := ⟨b, p + j, none⟩) hbl).trans eb
        clear htk hjl hbl eb
        cases d
        · by_cases hz : x < z
          · have hzd : decide (x < z) = true := decide_eq_true hz
            have HZL := Lib.hid hz
            have hml := HIA.out.len_no
            have hmo := ixs_len HRW.out
            rw [List.length_take] at hml
            have hmj2 : m ≤ j := by omega
            clear hml hmo hz
            go_wp2_with (first | (at_builtin; refine wpList_append_own_at _ rfl (.tmp 28) (.tmp 30) 30 rfl w.heap.size 3 i0 _ 1 8 Tryz.underlying30 HI.out HZ0.out HZ2.out HZ3.out rfl (by omega) (.slice a1 m c1) m (intsV o) rfl (own_below HRW.out (al_new _)) _ 1 1 (intsV [x]) rfl rfl (new_int rfl) (by simp [intsV, Value.oneCell']) (by unfold maxLen; omega) (by omega) (by have := HS.out.size; simp; omega) ?_; intro v' w5 hown hgr hnil hat; obtain ⟨a3, c3', rfl, -, -⟩ := own_slice hown; have HR3 := Lib.hid (Ixs.push hown); have HS3 := Lib.hid ((below_then HS.out (al_new _) HS.out.size).grown hgr (by have := HS.out.size; simp; omega) fun g hg => (HRW.out.lt g hg).1); clear hown hgr hnil hat; have e0 := (HS3.out.cell (p := ⟨b, p + j, none⟩) HBL.out).trans HE.out) | (at_builtin; refine wpList_append_own_at _ rfl (.tmp 32) (.tmp 37) 30 rfl w.heap.size 3 i0 _ 1 8 Tryz.underlying30 HI.out HZ0.out HZ2.out HZ3.out rfl (by omega) (.slice a3 (m + 1) c3') (m + 1) (intsV (o ++ [x])) rfl (own_below HR3.out (al_new _)) _ 1 1 (intsV [z]) rfl rfl (new_int rfl) (by simp [intsV, Value.oneCell']) (by unfold maxLen; omega) (by omega) (by have := HS3.out.size; simp; omega) ?_; intro v' w6 hown hgr hnil hat; obtain ⟨a4, c4', rfl, -, -⟩ := own_slice hown; have HR4 := Lib.hid (Ixs.push hown); have HS5 := Lib.hid ((below_then HS3.out (al_new _) HS3.out.size).grown hgr (by have := HS3.out.size; simp; omega) fun g hg => (HR3.out.lt g hg).1); clear hown hgr hnil hat))
            go_roundw
            case rel => exact ⟨j + 1, m + 1 + 1, c4', a4, true, o ++ [x] ++ [z], by omega, by omega, by go_num, rfl, rfl, Lib.hid (by rw [HTK.out]; exact HIA.out.step_at HZL.out), HR4, HS5⟩
            case measure => simp [intOf]; omega
          · have hzd : decide (x < z) = false := decide_eq_false hz
            have HZL := Lib.hid hz
            clear hz
            go_wp2_with (at_builtin; refine wpList_append_own_at _ rfl (.tmp 32) (.tmp 37) 30 rfl w.heap.size 3 i0 _ 1 8 Tryz.underlying30 HI.out HZ0.out HZ2.out HZ3.out rfl (by omega) (.slice a1 m c1) m (intsV o) rfl (own_below HRW.out (al_new _)) _ 1 1 (intsV [z]) rfl rfl (new_int rfl) (by simp [intsV, Value.oneCell']) (by unfold maxLen; omega) (by omega) (by have := HS.out.size; simp; omega) ?_; intro v' w5 hown hgr hnil hat; obtain ⟨a3, c3', rfl, -, -⟩ := own_slice hown; have HR3 := Lib.hid (Ixs.push hown); have HS3 := Lib.hid ((below_then HS.out (al_new _) HS.out.size).grown hgr (by have := HS.out.size; simp; omega) fun g hg => (HRW.out.lt g hg).1); clear hown hgr hnil hat)
            go_roundw
            case rel => exact ⟨j + 1, m + 1, c3', a3, false, o ++ [z], by omega, by omega, by go_num, rfl, rfl, Lib.hid (by rw [HTK.out]; exact HIA.out.step_no HZL.out), HR3, HS3⟩
            case measure => simp [intOf]; omega
        · go_wp2_with (at_builtin; refine wpList_append_own_at _ rfl (.tmp 32) (.tmp 37) 30 rfl w.heap.size 3 i0 _ 1 8 Tryz.underlying30 HI.out HZ0.out HZ2.out HZ3.out rfl (by omega) (.slice a1 m c1) m (intsV o) rfl (own_below HRW.out (al_new _)) _ 1 1 (intsV [z]) rfl rfl (new_int rfl) (by simp [intsV, Value.oneCell']) (by unfold maxLen; omega) (by omega) (by have := HS.out.size; simp; omega) ?_; intro v' w5 hown hgr hnil hat; obtain ⟨a3, c3', rfl, -, -⟩ := own_slice hown; have HR3 := Lib.hid (Ixs.push hown); have HS3 := Lib.hid ((below_then HS.out (al_new _) HS.out.size).grown hgr (by have := HS.out.size; simp; omega) fun g hg => (HRW.out.lt g hg).1); clear hown hgr hnil hat)
          go_roundw
          case rel => exact ⟨j + 1, m + 1, c3', a3, true, o ++ [z], by omega, by omega, by go_num, rfl, rfl, Lib.hid (by rw [HTK.out]; exact HIA.out.step_yes), HR3, HS3⟩
          case measure => simp [intOf]; omega
      · obtain rfl : j = n := by omega
        have hia := HIA.out
        rw [List.take_of_length_le (by rw [HR.out.len]; exact Nat.le_refl _)] at hia
        have HIE := Lib.hid hia
        clear hia
        cases d
        · have hml := HIE.out.len_no
          have hmo := ixs_len HRW.out
          rw [HR.out.len] at hml
          have hmj2 : m ≤ j := by omega
          clear hml hmo
          go_wp2_with (at_builtin; refine wpList_append_own_at _ rfl (.tmp 42) (.tmp 44) 30 rfl w.heap.size 3 i0 _ 1 8 Tryz.underlying30 HI.out HZ0.out HZ2.out HZ3.out rfl (by omega) (.slice a1 m c1) m (intsV o) rfl (own_below HRW.out (al_new _)) _ 1 1 (intsV [x]) rfl rfl (new_int rfl) (by simp [intsV, Value.oneCell']) (by unfold maxLen; omega) (by omega) (by have := HS.out.size; simp; omega) ?_; intro v' w5 hown hgr hnil hat; obtain ⟨a3, c3', rfl, -, -⟩ := own_slice hown; have HR3 := Lib.hid (Ixs.push hown); have HS3 := Lib.hid ((below_then HS.out (al_new _) HS.out.size).grown hgr (by have := HS.out.size; simp; omega) fun g hg => (HRW.out.lt g hg).1); clear hown hgr hnil hat)
          go_ret
          exact ⟨_, m + 1, _, rfl, by omega, by unfold putI; rw [if_neg (by rw [HIN2.out]; simp), ← HIE.out.end_no]; exact own_lower HR3.out HB.out, HS3.out⟩
        · go_wp2_with (fail)
          go_ret
          exact ⟨_, m, _, rfl, by omega, by unfold putI; rw [if_neg (by rw [HIN2.out]; simp), ← HIE.out.end_yes]; exact own_lower HRW.out HB.out, HS.out⟩
end Effect
end Go.Proofs.YtggabjmfdnfckaaGreatDoor
