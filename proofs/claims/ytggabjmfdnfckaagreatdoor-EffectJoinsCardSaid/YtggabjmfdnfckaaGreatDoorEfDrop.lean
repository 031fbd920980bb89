/- Without some regions; without some exceptions. -/
import Derived.Test.YtggabjmfdnfckaaGreatDoorEfInts0
namespace Go.Proofs.YtggabjmfdnfckaaGreatDoor
open Go.RowKit Go.Sort Go.Shelf Go.Lib
set_option linter.unusedVariables false
set_option linter.unusedSimpArgs false
namespace Effect

def stayR (rhos : List Int) (x : At) : Bool := !(decide (x.k ≠ 3) && rhos.contains x.r)
def stayE (exns : List ByteArray) (x : At) : Bool := !(decide (x.k = 3) && Lib.containsS exns x.x)
/-- A row of texts that is read. -/
structure RdS (w : World) (n : Nat) (p : Option Addr) (l : List ByteArray) : Prop where
  len : l.length = n
  at_ : l = [] ∨ ∃ b o, p = some ⟨b, o, none⟩ ∧ ∀ i, i < l.length → w.cell? ⟨b, o + i, none⟩ = some (.string (l.getD i ByteArray.empty))
theorem RdS.below {w W : World} {n : Nat} {p : Option Addr} {l : List ByteArray} (h : RdS w n p l) (hb : Below w.heap.size w W) : RdS W n p l := by
  refine ⟨h.len, h.at_.imp id ?_⟩
  rintro ⟨b, o, hp, hc⟩
  exact ⟨b, o, hp, fun i hi => (hb.cell (p := ⟨b, _, none⟩) (World.block_lt_of_cell? w _ (hc i hi))).trans (hc i hi)⟩
theorem contains_walk {n c : Nat} {p : Option Addr} {l : List Int} {w : World} (h : RdI w n p l) (hn : n ≤ 100000) (x : Int) : Calls Tryz.prog 36 #[.slice p n c, .int .i64 x] w fun e w' => e = .returned (.bool (l.contains x)) ∧ w' = w := by
  obtain ⟨rfl, h2, -⟩ := h
  rcases h2 with rfl | ⟨b, o, rfl, hc⟩
  · exact Tryz.slices_Contains_int_empty p c x w
  · have := Tryz.slices_Contains_int b o l.length c l x w (Nat.le_refl _) (by omega) hc
    rw [List.take_length] at this
    exact this
theorem containsS_walk {n c : Nat} {p : Option Addr} {l : List ByteArray} {w : World} (h : RdS w n p l) (hn : n ≤ 100000) (x : ByteArray) : Calls Tryz.prog 38 #[.slice p n c, .string x] w fun e w' => e = .returned (.bool (Lib.containsS l x)) ∧ w' = w := by
  obtain ⟨rfl, h2⟩ := h
  rcases h2 with rfl | ⟨b, o, rfl, hc⟩
  · exact Tryz.slices_Contains_string_empty p c x w
  · have := Tryz.slices_Contains_string b o l.length c l x w (Nat.le_refl _) (by omega) hc
    rw [List.take_length] at this
    exact this
set_option maxHeartbeats 3200000 in
theorem without1_walk {n c N : Nat} {p : Option Addr} {l : List Int} {w : World} (x : At) (h : RdI w n p l) (hn : n ≤ 100000) (hb : w.cell? ⟨N, 0, none⟩ = some (.slice p n c)) : Calls Tryz.prog 35 #[.agg #[.int .u8 x.k, .int .i64 x.r, .string x.x], .pointer (some ⟨N, 0, none⟩)] w fun e w' => e = .returned (.bool (!stayR l x)) ∧ Below w.heap.size w w' := by
  have HR := Lib.hid fun W => inRegion_walk x W
  have H := Lib.hid h; have HB := Lib.hid hb
  have hN := World.block_lt_of_cell? w _ hb
  have HN := Lib.hid hN
  have HAL := Lib.hid fun O => al_new (W := w) O
  have HNB := Lib.hid fun O => heap_alloc_new w O
  clear h hb hN
  go_enter Tryz.func35, Tryz.ntmps35
  go_wp2_with (fail)
  refine (HR.out _).mono ?_
  rintro e w1 ⟨rfl, hb1⟩
  have hB1 : Below w.heap.size w w1 := (HAL.out _).trans (hb1.mono (by simp))
  have hbx := (hb1.block w.heap.size (by simp)).trans (HNB.out _)
  obtain ⟨⟨x0, x1, x2⟩, -, -⟩ := c3 hbx
  have e0 := (hB1.cell (p := ⟨N, 0, none⟩) HN.out).trans HB.out
  have HB1 := Lib.hid hB1
  have HC := Lib.hid (contains_walk (c := c) (H.out.below hB1) hn x.r)
  clear hb1 hB1 hbx
  by_cases hk : x.k = 3
  · have hs : false = !stayR l x := by unfold stayR; rw [decide_eq_false (fun e => e hk)]; rfl
    have HS := Lib.hid hs
    rw [show decide (x.k ≠ 3) = false from decide_eq_false fun e => e hk]
    clear hk hs
    go_wp2_with (fail)
    go_ret
    exact ⟨ret_bool HS.out, HB1.out⟩
  · have hs : l.contains x.r = !stayR l x := by unfold stayR; rw [decide_eq_true (show x.k ≠ 3 from hk)]; simp
    have HS := Lib.hid hs
    rw [show decide (x.k ≠ 3) = true from decide_eq_true hk]
    clear hk hs
    go_wp2_with (fail)
    refine HC.out.mono ?_
    rintro e w2 ⟨rfl, rfl⟩
    go_wp2_with (fail)
    go_ret
    exact ⟨ret_bool (by rw [← HS.out]; simp), HB1.out⟩
set_option maxHeartbeats 3200000 in
theorem handled1_walk {n c N : Nat} {p : Option Addr} {l : List ByteArray} {w : World} (x : At) (h : RdS w n p l) (hn : n ≤ 100000) (hb : w.cell? ⟨N, 0, none⟩ = some (.slice p n c)) : Calls Tryz.prog 37 #[.agg #[.int .u8 x.k, .int .i64 x.r, .string x.x], .pointer (some ⟨N, 0, none⟩)] w fun e w' => e = .returned (.bool (!stayE l x)) ∧ Below w.heap.size w w' := by
  have HR := Lib.hid fun W => inRegion_walk x W
  have H := Lib.hid h; have HB := Lib.hid hb
  have hN := World.block_lt_of_cell? w _ hb
  have HN := Lib.hid hN
  have HAL := Lib.hid fun O => al_new (W := w) O
  have HNB := Lib.hid fun O => heap_alloc_new w O
  clear h hb hN
  go_enter Tryz.func37, Tryz.ntmps37
  go_wp2_with (fail)
  refine (HR.out _).mono ?_
  rintro e w1 ⟨rfl, hb1⟩
  have hB1 : Below w.heap.size w w1 := (HAL.out _).trans (hb1.mono (by simp))
  have hbx := (hb1.block w.heap.size (by simp)).trans (HNB.out _)
  obtain ⟨⟨x0, x1, x2⟩, -, -⟩ := c3 hbx
  have e0 := (hB1.cell (p := ⟨N, 0, none⟩) HN.out).trans HB.out
  have HB1 := Lib.hid hB1
  have HC := Lib.hid (containsS_walk (c := c) (H.out.below hB1) hn x.x)
  clear hb1 hB1 hbx
  by_cases hk : x.k = 3
  · have hs : Lib.containsS l x.x = !stayE l x := by unfold stayE; rw [decide_eq_true hk]; simp
    have HS := Lib.hid hs
    rw [show decide (x.k ≠ 3) = false from decide_eq_false fun e => e hk]
    clear hk hs
    go_wp2_with (fail)
    refine HC.out.mono ?_
    rintro e w2 ⟨rfl, rfl⟩
    go_wp2_with (fail)
    go_ret
    exact ⟨ret_bool HS.out, HB1.out⟩
  · have hs : false = !stayE l x := by unfold stayE; rw [decide_eq_false hk]; rfl
    have HS := Lib.hid hs
    rw [show decide (x.k ≠ 3) = true from decide_eq_true hk]
    clear hk hs
    go_wp2_with (fail)
    go_ret
    exact ⟨ret_bool HS.out, HB1.out⟩

set_option maxRecDepth 100000 in
set_option maxHeartbeats 6400000 in
theorem withoutRho_walk (n c : Nat) (a : Option Addr) (l : List At) (w : World) (stay : At → Bool) (N : Nat) (hG : ∀ (x : At) (W : World), x.x.size ≤ maxLen → Below w.heap.size w W → w.heap.size ≤ W.heap.size → Calls Tryz.prog 35 #[.agg #[.int .u8 x.k, .int .i64 x.r, .string x.x], .pointer (some ⟨N, 0, none⟩)] W fun e w' => e = .returned (.bool (!stay x)) ∧ Below W.heap.size W w') (hl : l.length = n) (hn : n ≤ 100000) (ha : AtsAt w a l) (hok : ∀ x ∈ l, x.x.size ≤ maxLen) :
    Calls Tryz.prog 34 #[.func (.func 35) #[] #[.pointer (some ⟨N, 0, none⟩)], .slice a n c] w fun e w' => ∃ v, e = .returned v ∧ Row w.heap.size w' v (l.filter stay) ∧ Below w.heap.size w w' := by
  obtain ⟨i0, hi, hz0, hz2, hz3⟩ := info_parts
  have HI := Lib.hid hi; have HZ0 := Lib.hid hz0; have HZ2 := Lib.hid hz2; have HZ3 := Lib.hid hz3
  have HG := Lib.hid hG
  clear hG
  have HL := Lib.hid hl; have HA := Lib.hid ha; have HOK := Lib.hid hok
  clear hi hz0 hz2 hz3 hl ha hok
  go_enter Tryz.func34, Tryz.ntmps34
  go_wp2_with (fail)
  go_loopw [5, 10] (fun own i wr => ∃ (j m c1 : Nat) (a1 : Option Addr), j ≤ n ∧ m ≤ j ∧ i = .int .i64 (j : Int) ∧ own = .slice a1 m c1 ∧ Hid (m = ((l.take j).filter stay).length) ∧ Hid (Row w.heap.size wr (.slice a1 m c1) ((l.take j).filter stay)) ∧ Hid (Below w.heap.size w wr)) (fun _ i _ => n - (intOf i).toNat)
  case atStart => exact ⟨0, 0, 0, none, Nat.zero_le _, Nat.le_refl _, rfl, rfl, Lib.hid (by simp), Lib.hid (by rw [List.take_zero]; exact Row.nil _ _), Lib.hid (Below.refl _ _)⟩
  case round =>
    obtain ⟨j, m, c1, a1, hj, hmj, rfl, rfl, HM, HR, HS⟩ := hrel
    by_cases hlt : j < n
    · have hjl : j < l.length := by rw [HL.out]; exact hlt
      obtain ⟨b, o, rfl, e0, e1, e2⟩ := (HA.out.below HS.out).get j hjl
      have hx := HOK.out _ (aget_mem hjl)
      have htk := at_take l j hjl
      generalize aget l j = x at *
      have HX := Lib.hid hx; have HT := Lib.hid htk
      have HC := Lib.hid fun O : Obj => HG.out x (wr.alloc O) hx (Below.trans HS.out ((al_new O).mono HS.out.size)) (Nat.le_trans HS.out.size (by simp))
      clear hx htk hjl
      go_wp2_with (fail)
      refine (HC.out _).mono ?_
      rintro e w2 ⟨rfl, hb2⟩
      have hbox := (hb2.block wr.heap.size (by simp)).trans (heap_alloc_new wr _)
      obtain ⟨⟨x0, x1, x2⟩, -, -⟩ := c3 hbox
      have hB2 : Below wr.heap.size wr w2 := (al_new _).trans (hb2.mono (by simp))
      have HR2 := Lib.hid (HR.out.below hB2); have HS2 := Lib.hid (below_then HS.out hB2 HS.out.size)
      clear hb2 hbox hB2 e0 e1 e2
      cases hp : stay x
      · have HP := Lib.hid hp
        clear hp
        simp only [Bool.not_false, Bool.not_true]
        go_wp2_with (fail)
        go_roundw
        case rel => exact ⟨j + 1, m, c1, a1, by omega, by omega, by go_num, rfl, Lib.hid (by rw [HT.out, filter_step, HP.out]; simpa using HM.out), Lib.hid (by rw [HT.out, filter_step, HP.out]; simpa using HR2.out), HS2⟩
        case measure => simp [intOf]; omega
      · have HP := Lib.hid hp
        clear hp
        simp only [Bool.not_false, Bool.not_true]
        go_wp2_with (at_builtin; refine wpList_append_own_at _ rfl (.tmp 18) (.tmp 20) 25 rfl w.heap.size 47 i0 _ 3 32 Tryz.underlying25 HI.out HZ0.out HZ2.out HZ3.out rfl (by omega) (.slice a1 m c1) m (flat ((l.take j).filter stay)) rfl (HR2.out.own HM.out (al_new _)) _ 1 1 (enc x) rfl rfl (new_atom rfl) (enc_one x) (by unfold maxLen; omega) (by omega) (by have := HS2.out.size; simp; omega) ?_; intro v' w3 hown hgr hnil hat; obtain ⟨a3, c3', rfl, -, -⟩ := own_slice hown; have HR3 := Lib.hid hown; have HS3 := Lib.hid ((below_then HS2.out (al_new _) HS2.out.size).grown hgr (by have := HS2.out.size; simp; omega) fun g hg => (HR2.out.lt g hg).1); clear hown hgr hnil hat)
        go_roundw
        case rel => exact ⟨j + 1, m + 1, c3', a3, by omega, by omega, by go_num, rfl, Lib.hid (by rw [HT.out, filter_step, HP.out, List.length_append, ← HM.out]; rfl), Lib.hid (by have := HR3.out; unfold Row; rw [HT.out, filter_step, HP.out, flat_append, List.length_append, ← HM.out]; simpa [flat] using this), HS3⟩
        case measure => simp [intOf]; omega
    · obtain rfl : j = n := by omega
      have hr := HR.out
      rw [List.take_of_length_le (by rw [HL.out]; exact Nat.le_refl _)] at hr
      have HR' := Lib.hid hr
      clear hr
      go_wp2_with (fail)
      go_ret
      exact ⟨_, rfl, HR'.out, HS.out⟩

set_option maxRecDepth 100000 in
set_option maxHeartbeats 6400000 in
theorem withoutExn_walk (n c : Nat) (a : Option Addr) (l : List At) (w : World) (stay : At → Bool) (N : Nat) (hG : ∀ (x : At) (W : World), x.x.size ≤ maxLen → Below w.heap.size w W → w.heap.size ≤ W.heap.size → Calls Tryz.prog 37 #[.agg #[.int .u8 x.k, .int .i64 x.r, .string x.x], .pointer (some ⟨N, 0, none⟩)] W fun e w' => e = .returned (.bool (!stay x)) ∧ Below W.heap.size W w') (hl : l.length = n) (hn : n ≤ 100000) (ha : AtsAt w a l) (hok : ∀ x ∈ l, x.x.size ≤ maxLen) :
    Calls Tryz.prog 34 #[.func (.func 37) #[] #[.pointer (some ⟨N, 0, none⟩)], .slice a n c] w fun e w' => ∃ v, e = .returned v ∧ Row w.heap.size w' v (l.filter stay) ∧ Below w.heap.size w w' := by
  obtain ⟨i0, hi, hz0, hz2, hz3⟩ := info_parts
  have HI := Lib.hid hi; have HZ0 := Lib.hid hz0; have HZ2 := Lib.hid hz2; have HZ3 := Lib.hid hz3
  have HG := Lib.hid hG
  clear hG
  have HL := Lib.hid hl; have HA := Lib.hid ha; have HOK := Lib.hid hok
  clear hi hz0 hz2 hz3 hl ha hok
  go_enter Tryz.func34, Tryz.ntmps34
  go_wp2_with (fail)
  go_loopw [5, 10] (fun own i wr => ∃ (j m c1 : Nat) (a1 : Option Addr), j ≤ n ∧ m ≤ j ∧ i = .int .i64 (j : Int) ∧ own = .slice a1 m c1 ∧ Hid (m = ((l.take j).filter stay).length) ∧ Hid (Row w.heap.size wr (.slice a1 m c1) ((l.take j).filter stay)) ∧ Hid (Below w.heap.size w wr)) (fun _ i _ => n - (intOf i).toNat)
  case atStart => exact ⟨0, 0, 0, none, Nat.zero_le _, Nat.le_refl _, rfl, rfl, Lib.hid (by simp), Lib.hid (by rw [List.take_zero]; exact Row.nil _ _), Lib.hid (Below.refl _ _)⟩
  case round =>
    obtain ⟨j, m, c1, a1, hj, hmj, rfl, rfl, HM, HR, HS⟩ := hrel
    by_cases hlt : j < n
    · have hjl : j < l.length := by rw [HL.out]; exact hlt
      obtain ⟨b, o, rfl, e0, e1, e2⟩ := (HA.out.below HS.out).get j hjl
      have hx := HOK.out _ (aget_mem hjl)
      have htk := at_take l j hjl
      generalize aget l j = x at *
      have HX := Lib.hid hx; have HT := Lib.hid htk
      have HC := Lib.hid fun O : Obj => HG.out x (wr.alloc O) hx (Below.trans HS.out ((al_new O).mono HS.out.size)) (Nat.le_trans HS.out.size (by simp))
      clear hx htk hjl
      go_wp2_with (fail)
      refine (HC.out _).mono ?_
      rintro e w2 ⟨rfl, hb2⟩
      have hbox := (hb2.block wr.heap.size (by simp)).trans (heap_alloc_new wr _)
      obtain ⟨⟨x0, x1, x2⟩, -, -⟩ := c3 hbox
      have hB2 : Below wr.heap.size wr w2 := (al_new _).trans (hb2.mono (by simp))
      have HR2 := Lib.hid (HR.out.below hB2); have HS2 := Lib.hid (below_then HS.out hB2 HS.out.size)
      clear hb2 hbox hB2 e0 e1 e2
      cases hp : stay x
      · have HP := Lib.hid hp
        clear hp
        simp only [Bool.not_false, Bool.not_true]
        go_wp2_with (fail)
        go_roundw
        case rel => exact ⟨j + 1, m, c1, a1, by omega, by omega, by go_num, rfl, Lib.hid (by rw [HT.out, filter_step, HP.out]; simpa using HM.out), Lib.hid (by rw [HT.out, filter_step, HP.out]; simpa using HR2.out), HS2⟩
        case measure => simp [intOf]; omega
      · have HP := Lib.hid hp
        clear hp
        simp only [Bool.not_false, Bool.not_true]
        go_wp2_with (at_builtin; refine wpList_append_own_at _ rfl (.tmp 18) (.tmp 20) 25 rfl w.heap.size 47 i0 _ 3 32 Tryz.underlying25 HI.out HZ0.out HZ2.out HZ3.out rfl (by omega) (.slice a1 m c1) m (flat ((l.take j).filter stay)) rfl (HR2.out.own HM.out (al_new _)) _ 1 1 (enc x) rfl rfl (new_atom rfl) (enc_one x) (by unfold maxLen; omega) (by omega) (by have := HS2.out.size; simp; omega) ?_; intro v' w3 hown hgr hnil hat; obtain ⟨a3, c3', rfl, -, -⟩ := own_slice hown; have HR3 := Lib.hid hown; have HS3 := Lib.hid ((below_then HS2.out (al_new _) HS2.out.size).grown hgr (by have := HS2.out.size; simp; omega) fun g hg => (HR2.out.lt g hg).1); clear hown hgr hnil hat)
        go_roundw
        case rel => exact ⟨j + 1, m + 1, c3', a3, by omega, by omega, by go_num, rfl, Lib.hid (by rw [HT.out, filter_step, HP.out, List.length_append, ← HM.out]; rfl), Lib.hid (by have := HR3.out; unfold Row; rw [HT.out, filter_step, HP.out, flat_append, List.length_append, ← HM.out]; simpa [flat] using this), HS3⟩
        case measure => simp [intOf]; omega
    · obtain rfl : j = n := by omega
      have hr := HR.out
      rw [List.take_of_length_le (by rw [HL.out]; exact Nat.le_refl _)] at hr
      have HR' := Lib.hid hr
      clear hr
      go_wp2_with (fail)
      go_ret
      exact ⟨_, rfl, HR'.out, HS.out⟩

set_option maxRecDepth 100000 in
set_option maxHeartbeats 6400000 in
theorem withoutR {n c m d : Nat} {a b : Option Addr} {l : List At} {k : List Int} {w : World} (h : Rd w n a l) (h2 : RdI w m b k) (hn : n ≤ 100000) (hm : m ≤ 100000) : Calls Tryz.prog 17 #[.slice a n c, .slice b m d] w fun e w' => ∃ a' u c', e = .returned (.slice a' u c') ∧ u ≤ n ∧ Rd w' u a' ((ofA l).filter (stayR k)) ∧ Below w.heap.size w w' := by
  have H := Lib.hid h; have H2 := Lib.hid h2
  have HC := Lib.hid fun O => ofR (c := c) (h.below (al_new (W := w) O)) hn
  have HNB := Lib.hid fun O => heap_alloc_new w O
  clear h h2
  go_enter Tryz.func17, Tryz.ntmps17
  go_wp2_with (fail)
  refine (HC.out _).mono ?_
  rintro e w1 ⟨a1, m1, c1, rfl, hm1, -, hr1, hb1⟩
  have hB1 : Below w.heap.size w w1 := (al_new _).trans (hb1.mono (by simp))
  have hbx := (hb1.block w.heap.size (by simp)).trans (HNB.out _)
  have hcell : w1.cell? ⟨w.heap.size, 0, none⟩ = some (.slice b m d) := by simp [World.cell?, hbx]
  have hN : w.heap.size < w1.heap.size := lt_of_block hbx
  have HOK := Lib.hid hr1.ok
  have HW := Lib.hid (withoutRho_walk m1 c1 a1 (ofA l) w1 (stayR k) w.heap.size (fun x W hx hW hs => without1_walk x ((H2.out.below hB1).below hW) hm ((hW.cell (p := ⟨w.heap.size, 0, none⟩) hN).trans hcell)) hr1.len (by omega) hr1.at_ hr1.ok)
  have HB1 := Lib.hid hB1
  have HLE := Lib.hid (show ((ofA l).filter (stayR k)).length ≤ n from Nat.le_trans (List.length_filter_le _ _) (by have := of_le l; rw [H.out.len] at this; exact this))
  clear hr1 hb1 hB1 hbx hcell hN
  go_wp2_with (fail)
  refine HW.out.mono ?_
  rintro e w2 ⟨v, rfl, hr2, hb2⟩
  obtain ⟨a2, c2, rfl⟩ := hr2.slice
  have HR2 := Lib.hid (Rd.of_row hr2 fun x hx => HOK.out x (List.mem_filter.1 hx).1)
  have HB2 := Lib.hid (below_then HB1.out hb2 HB1.out.size)
  clear hr2 hb2
  generalize hu : ((ofA l).filter (stayR k)).length = u at *
  have HU := Lib.hid hu
  clear hu
  go_wp2_with (fail)
  go_ret
  exact ⟨a2, _, c2, rfl, HLE.out, HR2.out, HB2.out⟩

set_option maxRecDepth 100000 in
set_option maxHeartbeats 6400000 in
theorem handledR {n c m d : Nat} {a b : Option Addr} {l : List At} {k : List ByteArray} {w : World} (h : Rd w n a l) (h2 : RdS w m b k) (hn : n ≤ 100000) (hm : m ≤ 100000) : Calls Tryz.prog 18 #[.slice a n c, .slice b m d] w fun e w' => ∃ a' u c', e = .returned (.slice a' u c') ∧ u ≤ n ∧ Rd w' u a' ((ofA l).filter (stayE k)) ∧ Below w.heap.size w w' := by
  have H := Lib.hid h; have H2 := Lib.hid h2
  have HC := Lib.hid fun O => ofR (c := c) (h.below (al_new (W := w) O)) hn
  have HNB := Lib.hid fun O => heap_alloc_new w O
  clear h h2
  go_enter Tryz.func18, Tryz.ntmps18
  go_wp2_with (fail)
  refine (HC.out _).mono ?_
  rintro e w1 ⟨a1, m1, c1, rfl, hm1, -, hr1, hb1⟩
  have hB1 : Below w.heap.size w w1 := (al_new _).trans (hb1.mono (by simp))
  have hbx := (hb1.block w.heap.size (by simp)).trans (HNB.out _)
  have hcell : w1.cell? ⟨w.heap.size, 0, none⟩ = some (.slice b m d) := by simp [World.cell?, hbx]
  have hN : w.heap.size < w1.heap.size := lt_of_block hbx
  have HOK := Lib.hid hr1.ok
  have HW := Lib.hid (withoutExn_walk m1 c1 a1 (ofA l) w1 (stayE k) w.heap.size (fun x W hx hW hs => handled1_walk x ((H2.out.below hB1).below hW) hm ((hW.cell (p := ⟨w.heap.size, 0, none⟩) hN).trans hcell)) hr1.len (by omega) hr1.at_ hr1.ok)
  have HB1 := Lib.hid hB1
  have HLE := Lib.hid (show ((ofA l).filter (stayE k)).length ≤ n from Nat.le_trans (List.length_filter_le _ _) (by have := of_le l; rw [H.out.len] at this; exact this))
  clear hr1 hb1 hB1 hbx hcell hN
  go_wp2_with (fail)
  refine HW.out.mono ?_
  rintro e w2 ⟨v, rfl, hr2, hb2⟩
  obtain ⟨a2, c2, rfl⟩ := hr2.slice
  have HR2 := Lib.hid (Rd.of_row hr2 fun x hx => HOK.out x (List.mem_filter.1 hx).1)
  have HB2 := Lib.hid (below_then HB1.out hb2 HB1.out.size)
  clear hr2 hb2
  generalize hu : ((ofA l).filter (stayE k)).length = u at *
  have HU := Lib.hid hu
  clear hu
  go_wp2_with (fail)
  go_ret
  exact ⟨a2, _, c2, rfl, HLE.out, HR2.out, HB2.out⟩
end Effect
end Go.Proofs.YtggabjmfdnfckaaGreatDoor
