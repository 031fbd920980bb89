/- The program's order of atoms; rows of atoms, sorted. -/
import Derived.Test.YtggabjmfdnfckaaGreatDoorEfData
import Derived.Sort.OwnSortedInts
import Derived.Deep.RegionHeld
import Derived.Deep.Draws
namespace Go.Proofs.YtggabjmfdnfckaaGreatDoor
open Go.RowKit Go.Sort
set_option linter.unusedVariables false
set_option linter.unusedSimpArgs false
namespace Effect

def or3 (a b c : Int) : Int := if a ≠ 0 then a else if b ≠ 0 then b else c
theorem cmpA_or (a b : At) : cmpA a b = or3 (cmpI a.k b.k) (cmpI a.r b.r) (cmpS a.x b.x) := by
  unfold cmpA or3 cmpI cmpS
  have z : ¬ ((0 : Int) ≠ 0) := by simp
  by_cases hk : a.k = b.k
  · rw [if_pos hk]
    by_cases hr : a.r = b.r
    · rw [if_pos hr, if_neg (show ¬ a.k < b.k by omega), if_neg (show ¬ b.k < a.k by omega), if_neg z, if_neg (show ¬ a.r < b.r by omega), if_neg (show ¬ b.r < a.r by omega), if_neg z]
    · rw [if_neg hr, if_neg (show ¬ a.k < b.k by omega), if_neg (show ¬ b.k < a.k by omega), if_neg z]
      by_cases h : a.r < b.r
      · rw [if_pos h, if_pos h]; rfl
      · rw [if_neg h, if_neg h, if_pos (show b.r < a.r by omega)]; rfl
  · rw [if_neg hk]
    by_cases h : a.k < b.k
    · rw [if_pos h, if_pos h]; rfl
    · rw [if_neg h, if_neg h, if_pos (show b.k < a.k by omega)]; rfl
set_option maxHeartbeats 3200000 in
theorem or_walk (N : Nat) (a b c : Int) (w : World) (ty : TypeId) (h : w.heap[N]? = some (.cells #[.int .i64 a, .int .i64 b, .int .i64 c] ty (0, 0))) : Calls Tryz.prog 56 #[.slice (some ⟨N, 0, none⟩) 3 3] w fun e w' => e = .returned (.int .i64 (or3 a b c)) ∧ w' = w := by
  obtain ⟨⟨c0, c1, c2⟩, -, -⟩ := c3 h
  have HO := Lib.hid (show or3 a b c = if a ≠ 0 then a else if b ≠ 0 then b else c from rfl)
  clear h
  by_cases ha : a = 0
  · by_cases hb : b = 0
    · by_cases hc : c = 0
      · subst ha hb hc
        go_enter Tryz.func56, Tryz.ntmps56
        go_wp2
        refine wp_loop_rounds 4 ?_
        iterate 4 (rw [rounds_succ]; go_wp2)
        all_goals go_ret
        all_goals exact ⟨ret_i64 (by rw [HO.out]; rfl), rfl⟩
      · have hc' : (c == 0) = false := by simpa using hc
        have hc2 : (c != 0) = true := by rw [bne, hc']; rfl
        subst ha hb
        have H := Lib.hid hc
        clear hc
        go_enter Tryz.func56, Tryz.ntmps56
        go_wp2
        refine wp_loop_rounds 4 ?_
        iterate 4 (try (rw [rounds_succ]; go_wp2))
        all_goals go_ret
        all_goals exact ⟨ret_i64 (by rw [HO.out]; simp), rfl⟩
    · have hc' : (b == 0) = false := by simpa using hb
      have hc2 : (b != 0) = true := by rw [bne, hc']; rfl
      subst ha
      have H := Lib.hid hb
      clear hb
      go_enter Tryz.func56, Tryz.ntmps56
      go_wp2
      refine wp_loop_rounds 4 ?_
      iterate 4 (try (rw [rounds_succ]; go_wp2))
      all_goals go_ret
      all_goals exact ⟨ret_i64 (by rw [HO.out, if_neg (by simp), if_pos H.out]), rfl⟩
  · have hc' : (a == 0) = false := by simpa using ha
    have hc2 : (a != 0) = true := by rw [bne, hc']; rfl
    have H := Lib.hid ha
    clear ha
    go_enter Tryz.func56, Tryz.ntmps56
    go_wp2
    refine wp_loop_rounds 4 ?_
    iterate 4 (try (rw [rounds_succ]; go_wp2))
    all_goals go_ret
    all_goals exact ⟨ret_i64 (by rw [HO.out, if_pos H.out]), rfl⟩
theorem cmpI_lib (x y : Int) : Lib.compareInt x y = cmpI x y := by
  unfold Lib.compareInt cmpI
  rcases Int.lt_trichotomy x y with h | h | h <;> simp <;> omega
set_option maxRecDepth 100000 in
set_option maxHeartbeats 6400000 in
theorem order_walk (a b : At) (w : World) : Calls Tryz.prog 41 #[.agg #[.int .u8 a.k, .int .i64 a.r, .string a.x], .agg #[.int .u8 b.k, .int .i64 b.r, .string b.x]] w fun e w' => e = .returned (.int .i64 (cmpA a b)) ∧ ∃ q os, w' = grow (w.drewN q) os := by
  obtain ⟨W2, hW2⟩ : ∃ W2, (w.alloc (.cells #[.int .u8 a.k, .int .i64 a.r, .string a.x] 47)).alloc (.cells #[.int .u8 b.k, .int .i64 b.r, .string b.x] 47) = W2 := ⟨_, rfl⟩
  have x0 : W2.heap[w.heap.size]? = some (.cells #[.int .u8 a.k, .int .i64 a.r, .string a.x] 47 (0, 0)) := by rw [← hW2]; exact at_more (at_new rfl)
  have x1 : W2.heap[w.heap.size + 1]? = some (.cells #[.int .u8 b.k, .int .i64 b.r, .string b.x] 47 (0, 0)) := by rw [← hW2]; exact at_new (by simp)
  have HX := Lib.hid (And.intro x0 x1); have HW := Lib.hid hW2; have HC := Lib.hid (cmpA_or a b)
  clear x0 x1 hW2
  go_enter Tryz.func41, Tryz.ntmps41
  go_upto_region 1 with (fail)
  rw [HW.out]
  refine wp_region_held_drew (S := fun V => ∀ i, i < W2.heap.size → V.heap[i]? = W2.heap[i]?) (by kernel_rfl) (fun _ _ => rfl) (fun hHeld => ?_)
  refine wpAnyH_take (i := 0) (v := .pointer (some ⟨w.heap.size, 0, none⟩)) rfl (by kernel_rfl) (by kernel_rfl) (by kernel_rfl) (fun _ _ _ h => h) (Or.inl ⟨by rfl, ?_⟩) (by assumption) ?_
  · intro w' hSw
    first | (go_simp; done) | (go_simp; intro h0; omega) | rfl
  try simp only [Act.put, List.getElem_toArray, List.getElem_cons_succ, List.getElem_cons_zero, List.setIfInBounds_toArray, List.set_cons_zero, List.set_cons_succ]
  refine wpAnyH_take (i := 1) (v := .int .u8 a.k) rfl (by kernel_rfl) (by kernel_rfl) (by kernel_rfl) (fun _ _ _ h => h) (Or.inl ⟨by rfl, ?_⟩) (by assumption) ?_
  · intro w' hSw
    obtain ⟨⟨d0, d1, d2⟩, -, dl⟩ := c3 ((hSw _ (lt_of_block HX.out.1)).trans HX.out.1)
    first | (go_simp; done) | (go_simp; intro h0; omega) | rfl
  try simp only [Act.put, List.getElem_toArray, List.getElem_cons_succ, List.getElem_cons_zero, List.setIfInBounds_toArray, List.set_cons_zero, List.set_cons_succ]
  refine wpAnyH_take (i := 2) (v := .pointer (some ⟨w.heap.size + 1, 0, none⟩)) rfl (by kernel_rfl) (by kernel_rfl) (by kernel_rfl) (fun _ _ _ h => h) (Or.inl ⟨by rfl, ?_⟩) (by assumption) ?_
  · intro w' hSw
    first | (go_simp; done) | (go_simp; intro h0; omega) | rfl
  try simp only [Act.put, List.getElem_toArray, List.getElem_cons_succ, List.getElem_cons_zero, List.setIfInBounds_toArray, List.set_cons_zero, List.set_cons_succ]
  refine wpAnyH_take (i := 3) (v := .int .u8 b.k) rfl (by kernel_rfl) (by kernel_rfl) (by kernel_rfl) (fun _ _ _ h => h) (Or.inl ⟨by rfl, ?_⟩) (by assumption) ?_
  · intro w' hSw
    obtain ⟨⟨d0, d1, d2⟩, -, dl⟩ := c3 ((hSw _ (lt_of_block HX.out.2)).trans HX.out.2)
    first | (go_simp; done) | (go_simp; intro h0; omega) | rfl
  try simp only [Act.put, List.getElem_toArray, List.getElem_cons_succ, List.getElem_cons_zero, List.setIfInBounds_toArray, List.set_cons_zero, List.set_cons_succ]
  refine wpAnyH_take (i := 5) (v := .pointer (some ⟨w.heap.size, 1, none⟩)) rfl (by kernel_rfl) (by kernel_rfl) (by kernel_rfl) (fun _ _ _ h => h) (Or.inl ⟨by rfl, ?_⟩) (by assumption) ?_
  · intro w' hSw
    first | (go_simp; done) | (go_simp; intro h0; omega) | rfl
  try simp only [Act.put, List.getElem_toArray, List.getElem_cons_succ, List.getElem_cons_zero, List.setIfInBounds_toArray, List.set_cons_zero, List.set_cons_succ]
  refine wpAnyH_take (i := 6) (v := .int .i64 a.r) rfl (by kernel_rfl) (by kernel_rfl) (by kernel_rfl) (fun _ _ _ h => h) (Or.inl ⟨by rfl, ?_⟩) (by assumption) ?_
  · intro w' hSw
    obtain ⟨⟨d0, d1, d2⟩, -, dl⟩ := c3 ((hSw _ (lt_of_block HX.out.1)).trans HX.out.1)
    first | (go_simp; done) | (go_simp; intro h0; omega) | rfl
  try simp only [Act.put, List.getElem_toArray, List.getElem_cons_succ, List.getElem_cons_zero, List.setIfInBounds_toArray, List.set_cons_zero, List.set_cons_succ]
  refine wpAnyH_take (i := 7) (v := .pointer (some ⟨w.heap.size + 1, 1, none⟩)) rfl (by kernel_rfl) (by kernel_rfl) (by kernel_rfl) (fun _ _ _ h => h) (Or.inl ⟨by rfl, ?_⟩) (by assumption) ?_
  · intro w' hSw
    first | (go_simp; done) | (go_simp; intro h0; omega) | rfl
  try simp only [Act.put, List.getElem_toArray, List.getElem_cons_succ, List.getElem_cons_zero, List.setIfInBounds_toArray, List.set_cons_zero, List.set_cons_succ]
  refine wpAnyH_take (i := 8) (v := .int .i64 b.r) rfl (by kernel_rfl) (by kernel_rfl) (by kernel_rfl) (fun _ _ _ h => h) (Or.inl ⟨by rfl, ?_⟩) (by assumption) ?_
  · intro w' hSw
    obtain ⟨⟨d0, d1, d2⟩, -, dl⟩ := c3 ((hSw _ (lt_of_block HX.out.2)).trans HX.out.2)
    first | (go_simp; done) | (go_simp; intro h0; omega) | rfl
  try simp only [Act.put, List.getElem_toArray, List.getElem_cons_succ, List.getElem_cons_zero, List.setIfInBounds_toArray, List.set_cons_zero, List.set_cons_succ]
  refine wpAnyH_take (i := 10) (v := .pointer (some ⟨w.heap.size, 2, none⟩)) rfl (by kernel_rfl) (by kernel_rfl) (by kernel_rfl) (fun _ _ _ h => h) (Or.inl ⟨by rfl, ?_⟩) (by assumption) ?_
  · intro w' hSw
    first | (go_simp; done) | (go_simp; intro h0; omega) | rfl
  try simp only [Act.put, List.getElem_toArray, List.getElem_cons_succ, List.getElem_cons_zero, List.setIfInBounds_toArray, List.set_cons_zero, List.set_cons_succ]
  refine wpAnyH_take (i := 11) (v := .string a.x) rfl (by kernel_rfl) (by kernel_rfl) (by kernel_rfl) (fun _ _ _ h => h) (Or.inl ⟨by rfl, ?_⟩) (by assumption) ?_
  · intro w' hSw
    obtain ⟨⟨d0, d1, d2⟩, -, dl⟩ := c3 ((hSw _ (lt_of_block HX.out.1)).trans HX.out.1)
    first | (go_simp; done) | (go_simp; intro h0; omega) | rfl
  try simp only [Act.put, List.getElem_toArray, List.getElem_cons_succ, List.getElem_cons_zero, List.setIfInBounds_toArray, List.set_cons_zero, List.set_cons_succ]
  refine wpAnyH_take (i := 12) (v := .pointer (some ⟨w.heap.size + 1, 2, none⟩)) rfl (by kernel_rfl) (by kernel_rfl) (by kernel_rfl) (fun _ _ _ h => h) (Or.inl ⟨by rfl, ?_⟩) (by assumption) ?_
  · intro w' hSw
    first | (go_simp; done) | (go_simp; intro h0; omega) | rfl
  try simp only [Act.put, List.getElem_toArray, List.getElem_cons_succ, List.getElem_cons_zero, List.setIfInBounds_toArray, List.set_cons_zero, List.set_cons_succ]
  refine wpAnyH_take (i := 13) (v := .string b.x) rfl (by kernel_rfl) (by kernel_rfl) (by kernel_rfl) (fun _ _ _ h => h) (Or.inl ⟨by rfl, ?_⟩) (by assumption) ?_
  · intro w' hSw
    obtain ⟨⟨d0, d1, d2⟩, -, dl⟩ := c3 ((hSw _ (lt_of_block HX.out.2)).trans HX.out.2)
    first | (go_simp; done) | (go_simp; intro h0; omega) | rfl
  try simp only [Act.put, List.getElem_toArray, List.getElem_cons_succ, List.getElem_cons_zero, List.setIfInBounds_toArray, List.set_cons_zero, List.set_cons_succ]
  refine wpAnyH_ready (rs := [4]) (by kernel_rfl) (by simp) ?_
  refine AllReadyH.cons rfl (fun K hK => ?_) AllReadyH.nil
  have HK2 := Lib.hid hK
  clear hK
  try rw [if_pos (by rfl)]
  go_simp
  refine (cmpU_walk _ _ _).mono ?_
  rintro e wq ⟨rfl, rfl⟩
  refine HK2.out _ _ (fun _ _ => rfl) (fun hHeld => ?_)
  clear HK2
  try simp only [Act.put, List.getElem_toArray, List.getElem_cons_succ, List.getElem_cons_zero, List.setIfInBounds_toArray, List.set_cons_zero, List.set_cons_succ]
  clear K
  refine wpAnyH_ready (rs := [9]) (by kernel_rfl) (by simp) ?_
  refine AllReadyH.cons rfl (fun K hK => ?_) AllReadyH.nil
  have HK2 := Lib.hid hK
  clear hK
  try rw [if_pos (by rfl)]
  go_simp
  refine (Tryz.cmp_Compare_int _ _ _).mono ?_
  rintro e wq ⟨rfl, rfl⟩
  rw [show Lib.compareInt a.r b.r = cmpI a.r b.r from cmpI_lib _ _]
  refine HK2.out _ _ (fun _ _ => rfl) (fun hHeld => ?_)
  clear HK2
  try simp only [Act.put, List.getElem_toArray, List.getElem_cons_succ, List.getElem_cons_zero, List.setIfInBounds_toArray, List.set_cons_zero, List.set_cons_succ]
  clear K
  refine wpAnyH_ready (rs := [14]) (by kernel_rfl) (by simp) ?_
  refine AllReadyH.cons rfl (fun K hK => ?_) AllReadyH.nil
  have HK2 := Lib.hid hK
  clear hK
  try rw [if_pos (by rfl)]
  go_simp
  refine (cmpS_walk _ _ _).mono ?_
  rintro e wq ⟨rfl, rfl⟩
  refine HK2.out _ _ (fun _ _ => rfl) (fun hHeld => ?_)
  clear HK2
  try simp only [Act.put, List.getElem_toArray, List.getElem_cons_succ, List.getElem_cons_zero, List.setIfInBounds_toArray, List.set_cons_zero, List.set_cons_succ]
  clear K
  refine wpAnyH_ready (rs := [15]) (by kernel_rfl) (by simp) ?_
  refine AllReadyH.cons rfl (fun K hK => ?_) AllReadyH.nil
  have HK2 := Lib.hid hK
  clear hK
  try rw [if_pos (by rfl)]
  go_simp
  refine HK2.out _ _ (fun i hi => (al_new (W := W2) (.cells #[.int .i64 (cmpI a.k b.k), .int .i64 (cmpI a.r b.r), .int .i64 (cmpS a.x b.x)] 3)).block i hi) (fun hHeld => ?_)
  clear HK2
  try simp only [Act.put, List.getElem_toArray, List.getElem_cons_succ, List.getElem_cons_zero, List.setIfInBounds_toArray, List.set_cons_zero, List.set_cons_succ]
  clear K
  have hx3 : (W2.alloc (.cells #[.int .i64 (cmpI a.k b.k), .int .i64 (cmpI a.r b.r), .int .i64 (cmpS a.x b.x)] 3)).drew.heap[W2.heap.size]? = some (.cells #[.int .i64 (cmpI a.k b.k), .int .i64 (cmpI a.r b.r), .int .i64 (cmpS a.x b.x)] 3 (0, 0)) := heap_alloc_new W2 _
  have HX3 := Lib.hid hx3
  clear hx3
  refine wpAnyH_ready (rs := [16]) (by kernel_rfl) (by simp) ?_
  refine AllReadyH.cons rfl (fun K hK => ?_) AllReadyH.nil
  have HK2 := Lib.hid hK
  clear hK
  try rw [if_pos (by rfl)]
  go_simp
  refine (or_walk _ _ _ _ _ _ HX3.out).mono ?_
  rintro e wq ⟨rfl, rfl⟩
  refine HK2.out _ _ (fun i hi => (al_new (W := W2) (.cells #[.int .i64 (cmpI a.k b.k), .int .i64 (cmpI a.r b.r), .int .i64 (cmpS a.x b.x)] 3)).block i hi) (fun hHeld => ?_)
  clear HK2
  try simp only [Act.put, List.getElem_toArray, List.getElem_cons_succ, List.getElem_cons_zero, List.setIfInBounds_toArray, List.set_cons_zero, List.set_cons_succ]
  clear K
  refine wpAnyH_take (i := 17) (v := .int .i64 (or3 (cmpI a.k b.k) (cmpI a.r b.r) (cmpS a.x b.x))) rfl (by kernel_rfl) (by kernel_rfl) (by kernel_rfl) (fun _ _ _ h => h) (Or.inl ⟨by rfl, ?_⟩) (by assumption) ?_
  · intro w' hSw
    first | (go_simp; done) | (go_simp; intro h0; omega) | rfl
  try simp only [Act.put, List.getElem_toArray, List.getElem_cons_succ, List.getElem_cons_zero, List.setIfInBounds_toArray, List.set_cons_zero, List.set_cons_succ]
  refine wpAnyH_done (by kernel_rfl) ?_ _
  clear hHeld HX3
  rw [← HC.out]
  go_wp2_with (fail)
  go_ret
  refine ⟨rfl, 1, #[Obj.cells #[.int .u8 a.k, .int .i64 a.r, .string a.x] 47, Obj.cells #[.int .u8 b.k, .int .i64 b.r, .string b.x] 47, Obj.cells #[.int .i64 (cmpI a.k b.k), .int .i64 (cmpI a.r b.r), .int .i64 (cmpS a.x b.x)] 3], ?_⟩
  rw [← HW.out]
  simp only [alloc_eq_grow, grow_grow]
  rfl
end Effect
end Go.Proofs.YtggabjmfdnfckaaGreatDoor
