/- The walk of layer 8's statement on what is made of types. -/
import Derived.Test.YtgcnibipikondaaDoorTyMakesN
import Derived.Deep.RegionHeld3
import Derived.LoopTactic
import Derived.Deep.DeepCutAuto
namespace Go.Proofs.YtgcnibipikondaaDoor
open Go.RowKit
set_option linter.unusedVariables false
set_option linter.unusedSimpArgs false
namespace Types

theorem wts_all_small : ∀ ts : List Ty, ts.length ≤ wts ts
  | [] => by rw [wts_nil]; simp
  | t :: ts => by rw [wts_cons, List.length_cons]; have := wt_pos t; have := wts_all_small ts; omega

set_option maxRecDepth 100000 in
set_option maxHeartbeats 51200000 in
theorem typesMakes_walk (p : Option Addr) (l d : Nat) (ts : List Ty) (w : World) (hI : IsTys w p l d ts) (hl : Laid w) :
    Calls Tryd.prog 6 #[.slice p l d] w fun e w' => e = .returned (.bool true) ∧ Below w.heap.size w w' := by
  obtain ⟨hlen, hld, hdm, hk⟩ := hI
  have haw := fun W (hb : Below w.heap.size w W) => awake_walk W (hl.below hb)
  have hlm : l ≤ 9223372036854775807 := by unfold maxLen at hdm; omega
  have hdm' : d ≤ 9223372036854775807 := hdm
  have HAW := Lib.hid haw; have HL := Lib.hid hl
  by_cases hbig : 20 < l
  · clear haw hl hk
    go_enter Tryd.func6, Tryd.ntmps6
    go_wp2_with (fail)
    refine (HAW.out _ (Below.refl _ _)).mono ?_
    rintro e w1 ⟨rfl, hb1⟩
    have HB1 := Lib.hid hb1
    clear hb1
    go_wp2_with (fail)
    go_ret
    exact ⟨rfl, HB1.out⟩
  have HK := Lib.hid hk; have HLEN := Lib.hid hlen
  clear haw hl hk hlen
  go_enter Tryd.func6, Tryd.ntmps6
  go_wp2_with (fail)
  refine (refOf_walk 1 _ _ _ _).mono ?_
  rintro e w1 ⟨rfl, hb1⟩
  have hB1 : Below w.heap.size w w1 := (box_new _).trans (hb1.mono (by simp))
  have hw0 : WantAt w w1.heap.size (fnT (ts.drop l)) (w1.alloc (.cells #[.int .u8 1, .int .i64 0, .slice (some ⟨w.heap.size, 0, none⟩) 0 0] 24)) := by
    have hdr : ts.drop l = [] := List.drop_eq_nil_of_le (by rw [HLEN.out]; exact Nat.le_refl _)
    rw [hdr]
    exact ⟨hB1.alloc hB1.size _, ⟨1, 0⟩, _, 0, 0, heap_alloc_new _ _, ⟨rfl, rfl, ok_node (by omega), ⟨Nat.le_refl _, Nat.zero_le _⟩, .nokids _⟩⟩
  have hNN : w.heap.size ≤ w1.heap.size := hB1.size
  have HW0 := Lib.hid hw0
  clear hb1 hB1 hw0
  generalize hNd : w1.heap.size = N at *
  go_wp2_with (fail)
  go_loopw [4] (fun i wr => ∃ m : Nat, m ≤ l ∧ i = .int .i64 ((m : Int) - 1) ∧ Hid (WantAt w N (fnT (ts.drop m)) wr) ∧ Hid (wts (ts.drop m) ≤ 400 * (l - m))) (fun i _ => (intOf i + 1).toNat)
  case atStart => exact ⟨l, Nat.le_refl _, rfl, HW0, Lib.hid (by rw [List.drop_eq_nil_of_le (by rw [HLEN.out]; exact Nat.le_refl _), wts_nil]; omega)⟩
  case round =>
    obtain ⟨m, hm, rfl, HWA, HWT⟩ := hrel
    cases m with
    | succ m =>
      have hjk : m < ts.length := by rw [HLEN.out]; omega
      have e1 : ((m + 1 : Nat) : Int) - 1 = (m : Int) := by omega
      rw [e1]
      obtain ⟨b, o, q, c', rfl, hkid, k0, k1, k2⟩ := HK.out.get m hjk
      have hlift := fun W (hb : Below w.heap.size w W) => And.intro ((hb.cell (World.block_lt_of_cell? w _ k0)).trans k0) (And.intro ((hb.cell (World.block_lt_of_cell? w _ k1)).trans k1) ((hb.cell (World.block_lt_of_cell? w _ k2)).trans k2))
      have hds := wts_drop_le ts m hjk
      have HKI := Lib.hid hkid; have HLI := Lib.hid hlift; have HDS := Lib.hid hds; have HJK := Lib.hid hjk
      clear hkid k0 k1 k2 hlift hds hjk e1
      have hfl : m + 1 = l → fnT (ts.drop m) = tget ts m := fun e => fn_last (by rw [HLEN.out]; exact e)
      have hfd : ¬ m + 1 = l → fnT (ts.drop m) = .node ⟨4, 0⟩ [tget ts m, fnT (ts.drop (m + 1))] := fun e => fn_drop (by rw [HLEN.out]; omega)
      have HFL := Lib.hid hfl; have HFD := Lib.hid hfd
      clear hfl hfd
      generalize htt : tget ts m = t at *
      obtain ⟨c0, c1, c2⟩ := HLI.out _ HWA.out.1
      go_wp2_with (fail)
      refine (great_walk t _ q _ c' _ (HKI.out.below HWA.out.1)).mono ?_
      rintro e w2 ⟨rfl, hb2⟩
      have HWA2 := Lib.hid (HWA.out.later hb2)
      clear hb2 c0 c1 c2
      obtain ⟨c0, c1, c2⟩ := HLI.out _ HWA2.out.1
      cases hg : greatB t
      · have hsm : wts (ts.drop m) ≤ 400 * (l - m) := by have := small_of hg; have := HWT.out; have := HDS.out; omega
        have HSM := Lib.hid hsm
        clear hg hsm
        by_cases hlast : m + 1 = l
        · have e2 : ((m : Int) == (l : Int) - 1) = true := by rw [beq_iff_eq]; omega
          obtain ⟨hB, hd, qb, lb, cb, hN, hTn⟩ := HWA2.out
          obtain ⟨⟨x0, x1, x2⟩, y0, y1, y2⟩ := cells3 hN
          have HST : Hid (WantAt w N (fnT (ts.drop m)) (((w2.setCell ⟨N, 0, none⟩ (.int .u8 t.h.k)).setCell ⟨N, 1, none⟩ (.int .i64 t.h.v)).setCell ⟨N, 2, none⟩ (.slice q t.ks.length c'))) := Lib.hid (by rw [HFL.out hlast]; exact want_set HWA2.out hNN HKI.out)
          clear hB hN hTn
          go_wp2_with (fail)
          go_roundw
          case rel => exact ⟨m, by omega, by go_num, HST, HSM⟩
          case measure => simp [intOf]
        · have e2 : ((m : Int) == (l : Int) - 1) = false := by rw [beq_eq_false_iff_ne]; omega
          clear c0 c1 c2
          go_wp2_with (fail)
          refine wp_region_held_drew (S := fun W => Below w.heap.size w W) (by kernel_rfl) HWA2.out.1.drew (fun hHeld => ?_)
          have hSv0 : Below w.heap.size w w2.drew := HWA2.out.1.drew
          have HWA3 : Hid (WantAt w N (fnT (ts.drop (m + 1))) w2.drew) := Lib.hid (HWA2.out.later (Below.refl _ _).drew)
          clear hHeld
          generalize w2.drew = v0 at *
          obtain ⟨hB, hd, qb, lb, cb, hN, hTn⟩ := HWA3.out
          obtain ⟨⟨x0, x1, x2⟩, y0, y1, y2⟩ := cells3 hN
          refine wpAnyH_take (i := 0) (v := .slice (some ⟨b, o, none⟩) l d) rfl (by kernel_rfl) (by kernel_rfl) (by kernel_rfl) (fun _ _ _ h => h) (Or.inl ⟨by rfl, ?_⟩) (by assumption) ?_
          · intro w' hSw
            first | (go_simp; done) | rfl | (go_simp; intro hx; exact absurd hx (by omega)) | (go_simp; rw [if_pos (by omega), if_neg (by omega)])
          try simp only [Act.put, List.getElem_toArray, List.getElem_cons_succ, List.getElem_cons_zero, List.setIfInBounds_toArray, List.set_cons_zero, List.set_cons_succ]
          refine wpAnyH_take (i := 1) (v := .int .i64 m) rfl (by kernel_rfl) (by kernel_rfl) (by kernel_rfl) (fun _ _ _ h => h) (Or.inl ⟨by rfl, ?_⟩) (by assumption) ?_
          · intro w' hSw
            first | (go_simp; done) | rfl | (go_simp; intro hx; exact absurd hx (by omega)) | (go_simp; rw [if_pos (by omega), if_neg (by omega)])
          try simp only [Act.put, List.getElem_toArray, List.getElem_cons_succ, List.getElem_cons_zero, List.setIfInBounds_toArray, List.set_cons_zero, List.set_cons_succ]
          refine wpAnyH_take (i := 2) (v := .pointer (some ⟨b, o + m * 3, none⟩)) rfl (by kernel_rfl) (by kernel_rfl) (by kernel_rfl) (fun _ _ _ h => h) (Or.inl ⟨by rfl, ?_⟩) (by assumption) ?_
          · intro w' hSw
            first | (go_simp; done) | rfl | (go_simp; intro hx; exact absurd hx (by omega)) | (go_simp; rw [if_pos (by omega), if_neg (by omega)])
          try simp only [Act.put, List.getElem_toArray, List.getElem_cons_succ, List.getElem_cons_zero, List.setIfInBounds_toArray, List.set_cons_zero, List.set_cons_succ]
          refine wpAnyH_take (i := 3) (v := .agg #[.int .u8 t.h.k, .int .i64 t.h.v, .slice q t.ks.length c']) rfl (by kernel_rfl) (by kernel_rfl) (by kernel_rfl) (fun _ _ _ h => h) (Or.inl ⟨by rfl, ?_⟩) (by assumption) ?_
          · intro w' hSw
            obtain ⟨g0, g1, g2⟩ := HLI.out _ hSw
            first | (go_simp; done) | rfl | (go_simp; intro hx; exact absurd hx (by omega)) | (go_simp; rw [if_pos (by omega), if_neg (by omega)])
          try simp only [Act.put, List.getElem_toArray, List.getElem_cons_succ, List.getElem_cons_zero, List.setIfInBounds_toArray, List.set_cons_zero, List.set_cons_succ]
          refine wpAnyH_ready (rs := [4]) (by kernel_rfl) (by simp) ?_
          refine AllReadyH.cons rfl (fun K hK => ?_) AllReadyH.nil
          have HK2 := Lib.hid hK
          clear hK
          go_simp
          refine HK2.out _ _ hSv0 (fun hHeld => ?_)
          clear HK2 hHeld
          try simp only [Act.put, List.getElem_toArray, List.getElem_cons_succ, List.getElem_cons_zero, List.setIfInBounds_toArray, List.set_cons_zero, List.set_cons_succ]
          clear K
          refine wpAnyH_ready (rs := [5]) (by kernel_rfl) (by simp) ?_
          refine AllReadyH.cons rfl (fun K hK => ?_) AllReadyH.nil
          have HK2 := Lib.hid hK
          clear hK
          go_simp
          have hSv1 : Below w.heap.size w (v0.alloc (.cells #[.int .u8 t.h.k, .int .i64 t.h.v, .slice q t.ks.length c', .int .u8 hd.k, .int .i64 hd.v, .slice qb lb cb] 24)) := hSv0.alloc hSv0.size _
          refine HK2.out _ _ hSv1 (fun hHeld => ?_)
          clear HK2 hHeld
          try simp only [Act.put, List.getElem_toArray, List.getElem_cons_succ, List.getElem_cons_zero, List.setIfInBounds_toArray, List.set_cons_zero, List.set_cons_succ]
          clear K
          refine wpAnyH_ready (rs := [6]) (by kernel_rfl) (by simp) ?_
          refine AllReadyH.cons rfl (fun K hK => ?_) AllReadyH.nil
          have HK2 := Lib.hid hK
          clear hK
          go_simp
          refine (refOf_walk 4 _ _ _ _).mono ?_
          rintro e v2 ⟨rfl, hb3⟩
          have hSv2 : Below w.heap.size w v2 := below_then hSv1 hb3 hSv1.size
          have hXv2 : v2.heap[N]? = some (.cells #[.int .u8 hd.k, .int .i64 hd.v, .slice qb lb cb] 24 (0, 0)) := ((((box_new _).trans (hb3.mono (by simp))) : Below v0.heap.size v0 v2).block _ (lt_of_block hN)).trans hN
          obtain ⟨⟨u0, u1, u2⟩, z0, z1, z2⟩ := cells3 hXv2
          have hst := want_pair hB hN hTn hNN HKI.out hb3
          rw [← HFD.out hlast] at hst
          have HST := Lib.hid hst
          clear hst
          refine HK2.out _ _ hSv2 (fun hHeld => ?_)
          clear HK2 hHeld
          try simp only [Act.put, List.getElem_toArray, List.getElem_cons_succ, List.getElem_cons_zero, List.setIfInBounds_toArray, List.set_cons_zero, List.set_cons_succ]
          clear K
          refine wpAnyH_ready (rs := [7]) (by kernel_rfl) (by simp) ?_
          refine AllReadyH.cons rfl (fun K hK => ?_) AllReadyH.nil
          have HK2 := Lib.hid hK
          clear hK
          go_simp
          refine HK2.out _ _ HST.out.1 (fun hHeld => ?_)
          clear HK2 hHeld
          try simp only [Act.put, List.getElem_toArray, List.getElem_cons_succ, List.getElem_cons_zero, List.setIfInBounds_toArray, List.set_cons_zero, List.set_cons_succ]
          clear K
          refine wpAnyH_done (by kernel_rfl) ?_ _
          clear hN hTn hXv2 hB x0 x1 x2 y0 y1 y2 u0 u1 u2 z0 z1 z2
          go_wp2_with (fail)
          go_roundw
          case rel => exact ⟨m, by omega, by go_num, HST, HSM⟩
          case measure => simp [intOf]
      · clear hg c0 c1 c2
        go_wp2_with (fail)
        refine (HAW.out _ HWA2.out.1).mono ?_
        rintro e w3 ⟨rfl, hb3⟩
        have HW3 := Lib.hid (below_then HWA2.out.1 hb3 HWA2.out.1.size)
        clear hb3
        go_wp2_with (fail)
        go_ret
        exact ⟨rfl, HW3.out⟩
    | zero =>
      have hwa := HWA.out
      have hwt := HWT.out
      rw [List.drop_zero] at hwa hwt
      have HWA1 := Lib.hid hwa; have HWT1 := Lib.hid hwt
      clear hwa hwt
      go_upto_region 12 with (fail)
      go_cut [51] (fun s51 wx => s51 = .bool false ∧ Hid (Below w.heap.size w wx))
      case first =>
        go_wp2_with (fail)
        refine wp_region_held_drew (S := fun W => Below wr.heap.size wr W) (by kernel_rfl) (Below.refl _ _).drew (fun hHeld => ?_)
        obtain ⟨hB, hd, qb, lb, cb, hN, hTn⟩ := HWA1.out
        have hTw := hTn.reads' (veil_reads _ _)
        have hcc := (cells3 hN).1
        have hc : ∀ W, Below wr.heap.size wr W → W.cell? ⟨N, 0, none⟩ = some (.int .u8 hd.k) ∧ W.cell? ⟨N, 1, none⟩ = some (.int .i64 hd.v) ∧ W.cell? ⟨N, 2, none⟩ = some (.slice qb lb cb) := fun W hb => by
          have hl := lt_of_block hN
          exact ⟨(hb.cell (p := ⟨N, 0, none⟩) hl).trans hcc.1, (hb.cell (p := ⟨N, 1, none⟩) hl).trans hcc.2.1, (hb.cell (p := ⟨N, 2, none⟩) hl).trans hcc.2.2⟩
        have HC := Lib.hid hc; have HTW := Lib.hid hTw; have HB := Lib.hid hB
        clear hc hTw hB hN hTn hcc hHeld
        have hSv0 : Below wr.heap.size wr wr.drew := (Below.refl _ _).drew
        generalize wr.drew = v0 at *
        refine wpAnyH_take (i := 0) (v := .slice p l d) rfl (by kernel_rfl) (by kernel_rfl) (by kernel_rfl) (fun _ _ _ h => h) (Or.inl ⟨by rfl, ?_⟩) (by assumption) ?_
        · intro w' hSw
          first | (go_simp; done) | rfl | (go_simp; intro hx; exact absurd hx (by omega)) | (go_simp; rw [if_pos (by omega), if_neg (by omega)])
        try simp only [Act.put, List.getElem_toArray, List.getElem_cons_succ, List.getElem_cons_zero, List.setIfInBounds_toArray, List.set_cons_zero, List.set_cons_succ]
        refine wpAnyH_take (i := 2) (v := .agg #[.int .u8 hd.k, .int .i64 hd.v, .slice qb lb cb]) rfl (by kernel_rfl) (by kernel_rfl) (by kernel_rfl) (fun _ _ _ h => h) (Or.inl ⟨by rfl, ?_⟩) (by assumption) ?_
        · intro w' hSw
          obtain ⟨g0, g1, g2⟩ := HC.out _ hSw
          first | (go_simp; done) | rfl | (go_simp; intro hx; exact absurd hx (by omega)) | (go_simp; rw [if_pos (by omega), if_neg (by omega)])
        try simp only [Act.put, List.getElem_toArray, List.getElem_cons_succ, List.getElem_cons_zero, List.setIfInBounds_toArray, List.set_cons_zero, List.set_cons_succ]
        refine wpAnyH_ready (rs := [1]) (by kernel_rfl) (by simp) ?_
        refine AllReadyH.cons rfl (fun K hK => ?_) AllReadyH.nil
        have HK2 := Lib.hid hK
        clear hK
        go_simp
        refine (fn_walk ts p l d _ (by have := HWT1.out; omega) HLEN.out (by omega) (HK.out.stay (below_then HB.out hSv0 HB.out.size))).mono ?_
        rintro e v1 ⟨hf, qf, lf, cf, rfl, hTf, hbf⟩
        have hSv1 := below_then hSv0 hbf hSv0.size
        have HTF := Lib.hid (hTf.reads' (veil_reads _ _))
        clear hbf hTf
        refine HK2.out _ _ hSv1 (fun hHeld => ?_)
        clear HK2 hHeld
        try simp only [Act.put, List.getElem_toArray, List.getElem_cons_succ, List.getElem_cons_zero, List.setIfInBounds_toArray, List.set_cons_zero, List.set_cons_succ]
        clear K
        refine wpAnyH_ready (rs := [3]) (by kernel_rfl) (by simp) ?_
        refine AllReadyH.cons rfl (fun K hK => ?_) AllReadyH.nil
        have HK2 := Lib.hid hK
        clear hK
        go_simp
        refine (refSame_walk _ (fnT ts) (fnT ts) hf hd qf qb lf cf lb cb v1 (Nat.le_refl _) HTF.out (HTW.out.below hSv1)).mono ?_
        rintro e v2 ⟨rfl, hb2⟩
        rw [same_self]
        have hSv2 := below_then hSv1 hb2 hSv1.size
        clear hb2
        refine HK2.out _ _ hSv2 (fun hHeld => ?_)
        clear HK2 hHeld
        try simp only [Act.put, List.getElem_toArray, List.getElem_cons_succ, List.getElem_cons_zero, List.setIfInBounds_toArray, List.set_cons_zero, List.set_cons_succ]
        clear K
        refine wpAnyH_take (i := 4) (v := .bool false) rfl (by kernel_rfl) (by kernel_rfl) (by kernel_rfl) (fun _ _ _ h => h) (Or.inl ⟨by rfl, ?_⟩) (by assumption) ?_
        · intro w' hSw
          first | (go_simp; done) | rfl | (go_simp; intro hx; exact absurd hx (by omega)) | (go_simp; rw [if_pos (by omega), if_neg (by omega)])
        try simp only [Act.put, List.getElem_toArray, List.getElem_cons_succ, List.getElem_cons_zero, List.setIfInBounds_toArray, List.set_cons_zero, List.set_cons_succ]
        refine wpAnyH_take (i := 5) (v := .bool false) rfl (by kernel_rfl) (by kernel_rfl) (by kernel_rfl) (fun _ _ _ h => h) (Or.inl ⟨by rfl, ?_⟩) (by assumption) ?_
        · intro w' hSw
          first | (go_simp; done) | rfl | (go_simp; intro hx; exact absurd hx (by omega)) | (go_simp; rw [if_pos (by omega), if_neg (by omega)])
        try simp only [Act.put, List.getElem_toArray, List.getElem_cons_succ, List.getElem_cons_zero, List.setIfInBounds_toArray, List.set_cons_zero, List.set_cons_succ]
        refine wpAnyH_ready (rs := [6, 7]) (by kernel_rfl) (by simp) ?_
        refine AllReadyH.cons rfl (fun K hK => ?_) (AllReadyH.cons rfl (fun K hK => ?_) AllReadyH.nil)
        · have HK2 := Lib.hid hK
          clear hK
          go_simp
          refine (int_walk _).mono ?_
          rintro e v3 ⟨qi, ci, rfl, hTi, hb3⟩
          have hSv3 := below_then hSv2 hb3 hSv2.size
          have HTI := Lib.hid (hTi.reads' (veil_reads _ _))
          clear hb3 hTi
          refine HK2.out _ _ hSv3 (fun hHeld => ?_)
          clear HK2 hHeld
          try simp only [Act.put, List.getElem_toArray, List.getElem_cons_succ, List.getElem_cons_zero, List.setIfInBounds_toArray, List.set_cons_zero, List.set_cons_succ]
          clear K
          refine wpAnyH_ready (rs := [7]) (by kernel_rfl) (by simp) ?_
          refine AllReadyH.cons rfl (fun K hK => ?_) AllReadyH.nil
          have HK2 := Lib.hid hK
          clear hK
          go_simp
          have hSv4 : Below wr.heap.size wr (v3.alloc (.cells #[] 24)) := hSv3.alloc hSv3.size _
          have HTI2 := Lib.hid (HTI.out.below (box_new (.cells #[] 24)))
          refine HK2.out _ _ hSv4 (fun hHeld => ?_)
          clear HK2 hHeld
          try simp only [Act.put, List.getElem_toArray, List.getElem_cons_succ, List.getElem_cons_zero, List.setIfInBounds_toArray, List.set_cons_zero, List.set_cons_succ]
          clear K
          generalize v3.alloc (.cells #[] 24) = v4 at *
          refine wpAnyH_ready (rs := [8]) (by kernel_rfl) (by simp) ?_
          refine AllReadyH.cons rfl (fun K hK => ?_) AllReadyH.nil
          have HK2 := Lib.hid hK
          clear hK
          go_simp
          refine (refOf_walk 1 _ _ _ _).mono ?_
          rintro e v5 ⟨rfl, hb5⟩
          have hSv5 := below_then hSv4 hb5 hSv4.size
          have HTI3 := Lib.hid (HTI2.out.below hb5)
          clear hb5
          refine HK2.out _ _ hSv5 (fun hHeld => ?_)
          clear HK2 hHeld
          try simp only [Act.put, List.getElem_toArray, List.getElem_cons_succ, List.getElem_cons_zero, List.setIfInBounds_toArray, List.set_cons_zero, List.set_cons_succ]
          clear K
          refine wpAnyH_ready (rs := [9]) (by kernel_rfl) (by simp) ?_
          refine AllReadyH.cons rfl (fun K hK => ?_) AllReadyH.nil
          have HK2 := Lib.hid hK
          clear hK
          go_simp
          refine (refSame_walk _ (.node ⟨1, 0⟩ []) (.node ⟨1, 0⟩ []) ⟨1, 0⟩ ⟨1, 0⟩ qi _ 0 ci 0 0 v5 (Nat.le_refl _) HTI3.out ⟨rfl, rfl, ok_node (by omega), ⟨Nat.le_refl _, Nat.zero_le _⟩, .nokids _⟩).mono ?_
          rintro e v6 ⟨rfl, hb6⟩
          rw [same_self]
          have hSv6 := below_then hSv5 hb6 hSv5.size
          clear hb6
          refine HK2.out _ _ hSv6 (fun hHeld => ?_)
          clear HK2 hHeld
          try simp only [Act.put, List.getElem_toArray, List.getElem_cons_succ, List.getElem_cons_zero, List.setIfInBounds_toArray, List.set_cons_zero, List.set_cons_succ]
          clear K
          refine wpAnyH_take (i := 10) (v := .bool false) rfl (by kernel_rfl) (by kernel_rfl) (by kernel_rfl) (fun _ _ _ h => h) (Or.inl ⟨by rfl, ?_⟩) (by assumption) ?_
          · intro w' hSw
            first | (go_simp; done) | rfl | (go_simp; intro hx; exact absurd hx (by omega)) | (go_simp; rw [if_pos (by omega), if_neg (by omega)])
          try simp only [Act.put, List.getElem_toArray, List.getElem_cons_succ, List.getElem_cons_zero, List.setIfInBounds_toArray, List.set_cons_zero, List.set_cons_succ]
          refine wpAnyH_take (i := 11) (v := .bool false) rfl (by kernel_rfl) (by kernel_rfl) (by kernel_rfl) (fun _ _ _ h => h) (Or.inl ⟨by rfl, ?_⟩) (by assumption) ?_
          · intro w' hSw
            first | (go_simp; done) | rfl | (go_simp; intro hx; exact absurd hx (by omega)) | (go_simp; rw [if_pos (by omega), if_neg (by omega)])
          try simp only [Act.put, List.getElem_toArray, List.getElem_cons_succ, List.getElem_cons_zero, List.setIfInBounds_toArray, List.set_cons_zero, List.set_cons_succ]
          refine wpAnyH_done (by kernel_rfl) ?_ _
          have HEND := Lib.hid (below_then HB.out hSv6 HB.out.size)
          go_wp2_with (fail)
          go_meet
          exact ⟨rfl, HEND⟩
        · have HK2 := Lib.hid hK
          clear hK
          go_simp
          have hSv3 : Below wr.heap.size wr (v2.alloc (.cells #[] 24)) := hSv2.alloc hSv2.size _
          refine HK2.out _ _ hSv3 (fun hHeld => ?_)
          clear HK2 hHeld
          try simp only [Act.put, List.getElem_toArray, List.getElem_cons_succ, List.getElem_cons_zero, List.setIfInBounds_toArray, List.set_cons_zero, List.set_cons_succ]
          clear K
          refine wpAnyH_ready (rs := [6]) (by kernel_rfl) (by simp) ?_
          refine AllReadyH.cons rfl (fun K hK => ?_) AllReadyH.nil
          have HK2 := Lib.hid hK
          clear hK
          go_simp
          refine (int_walk _).mono ?_
          rintro e v4 ⟨qi, ci, rfl, hTi, hb3⟩
          have hSv4 := below_then hSv3 hb3 hSv3.size
          have HTI2 := Lib.hid (hTi.reads' (veil_reads _ _))
          clear hb3 hTi
          refine HK2.out _ _ hSv4 (fun hHeld => ?_)
          clear HK2 hHeld
          try simp only [Act.put, List.getElem_toArray, List.getElem_cons_succ, List.getElem_cons_zero, List.setIfInBounds_toArray, List.set_cons_zero, List.set_cons_succ]
          clear K
          refine wpAnyH_ready (rs := [8]) (by kernel_rfl) (by simp) ?_
          refine AllReadyH.cons rfl (fun K hK => ?_) AllReadyH.nil
          have HK2 := Lib.hid hK
          clear hK
          go_simp
          refine (refOf_walk 1 _ _ _ _).mono ?_
          rintro e v5 ⟨rfl, hb5⟩
          have hSv5 := below_then hSv4 hb5 hSv4.size
          have HTI3 := Lib.hid (HTI2.out.below hb5)
          clear hb5
          refine HK2.out _ _ hSv5 (fun hHeld => ?_)
          clear HK2 hHeld
          try simp only [Act.put, List.getElem_toArray, List.getElem_cons_succ, List.getElem_cons_zero, List.setIfInBounds_toArray, List.set_cons_zero, List.set_cons_succ]
          clear K
          refine wpAnyH_ready (rs := [9]) (by kernel_rfl) (by simp) ?_
          refine AllReadyH.cons rfl (fun K hK => ?_) AllReadyH.nil
          have HK2 := Lib.hid hK
          clear hK
          go_simp
          refine (refSame_walk _ (.node ⟨1, 0⟩ []) (.node ⟨1, 0⟩ []) ⟨1, 0⟩ ⟨1, 0⟩ qi _ 0 ci 0 0 v5 (Nat.le_refl _) HTI3.out ⟨rfl, rfl, ok_node (by omega), ⟨Nat.le_refl _, Nat.zero_le _⟩, .nokids _⟩).mono ?_
          rintro e v6 ⟨rfl, hb6⟩
          rw [same_self]
          have hSv6 := below_then hSv5 hb6 hSv5.size
          clear hb6
          refine HK2.out _ _ hSv6 (fun hHeld => ?_)
          clear HK2 hHeld
          try simp only [Act.put, List.getElem_toArray, List.getElem_cons_succ, List.getElem_cons_zero, List.setIfInBounds_toArray, List.set_cons_zero, List.set_cons_succ]
          clear K
          refine wpAnyH_take (i := 10) (v := .bool false) rfl (by kernel_rfl) (by kernel_rfl) (by kernel_rfl) (fun _ _ _ h => h) (Or.inl ⟨by rfl, ?_⟩) (by assumption) ?_
          · intro w' hSw
            first | (go_simp; done) | rfl | (go_simp; intro hx; exact absurd hx (by omega)) | (go_simp; rw [if_pos (by omega), if_neg (by omega)])
          try simp only [Act.put, List.getElem_toArray, List.getElem_cons_succ, List.getElem_cons_zero, List.setIfInBounds_toArray, List.set_cons_zero, List.set_cons_succ]
          refine wpAnyH_take (i := 11) (v := .bool false) rfl (by kernel_rfl) (by kernel_rfl) (by kernel_rfl) (fun _ _ _ h => h) (Or.inl ⟨by rfl, ?_⟩) (by assumption) ?_
          · intro w' hSw
            first | (go_simp; done) | rfl | (go_simp; intro hx; exact absurd hx (by omega)) | (go_simp; rw [if_pos (by omega), if_neg (by omega)])
          try simp only [Act.put, List.getElem_toArray, List.getElem_cons_succ, List.getElem_cons_zero, List.setIfInBounds_toArray, List.set_cons_zero, List.set_cons_succ]
          refine wpAnyH_done (by kernel_rfl) ?_ _
          have HEND := Lib.hid (below_then HB.out hSv6 HB.out.size)
          go_wp2_with (fail)
          go_meet
          exact ⟨rfl, HEND⟩
      case rest =>
        obtain ⟨rfl, HX⟩ := hcut
        by_cases h2 : l < 2
        · go_wp2_with (fail)
          refine (HAW.out _ HX.out).mono ?_
          rintro e w3 ⟨rfl, hb3⟩
          have HW3 := Lib.hid (below_then HX.out hb3 HX.out.size)
          clear hb3
          go_wp2_with (fail)
          go_ret
          exact ⟨rfl, HW3.out⟩
        · have hj0 : 0 < ts.length := by rw [HLEN.out]; omega
          have hj1 : 1 < ts.length := by rw [HLEN.out]; omega
          obtain ⟨b, o, q0, d0, rfl, hT0, k0, k1, k2⟩ := HK.out.get 0 hj0
          obtain ⟨b', o', q1, d1, he, hT1, j0, j1, j2⟩ := HK.out.get 1 hj1
          injection he with he
          injection he with he1 he2
          subst he1 he2
          have hkt := HK.out.take 2
          have hkd := (HK.out.take 2).drop 1
          have htk : ts.take 2 = [tget ts 0, tget ts 1] := by
            rw [take_tget ts 1 hj1, take_tget ts 0 hj0, List.take_zero]; rfl
          rw [htk] at hkt hkd
          have hw2 : wt (tget ts 0) + wt (tget ts 1) ≤ 16000 := by
            have h0 := wts_drop_le ts 0 hj0
            have h1 := wts_drop_le ts 1 hj1
            rw [List.drop_zero, Nat.zero_add] at h0
            have := HWT1.out
            omega
          have hlift := fun W (hb : Below w.heap.size w W) => And.intro (And.intro ((hb.cell (World.block_lt_of_cell? w _ k0)).trans k0) (And.intro ((hb.cell (World.block_lt_of_cell? w _ k1)).trans k1) ((hb.cell (World.block_lt_of_cell? w _ k2)).trans k2))) (And.intro ((hb.cell (World.block_lt_of_cell? w _ j0)).trans j0) (And.intro ((hb.cell (World.block_lt_of_cell? w _ j1)).trans j1) ((hb.cell (World.block_lt_of_cell? w _ j2)).trans j2)))
          simp only [Nat.zero_mul, Nat.one_mul, Nat.add_zero] at hlift
          have HLI := Lib.hid hlift; have HT0 := Lib.hid hT0; have HT1 := Lib.hid hT1; have HKT := Lib.hid hkt; have HKD := Lib.hid hkd; have HW2 := Lib.hid hw2
          clear hlift hT0 hT1 hkt hkd hw2 htk k0 k1 k2 j0 j1 j2 hj0 hj1
          generalize tget ts 0 = t0 at *
          generalize tget ts 1 = t1 at *
          go_wp2_with (fail)
          refine wp_region_held_drew (S := fun W => Below w.heap.size w W) (by kernel_rfl) HX.out.drew (fun hHeld => ?_)
          have hSv0 : Below w.heap.size w wc.drew := HX.out.drew
          clear hHeld
          generalize wc.drew = v0 at *
          refine wpAnyH_take (i := 0) (v := .slice (some ⟨b, o, none⟩) l d) rfl (by kernel_rfl) (by kernel_rfl) (by kernel_rfl) (fun _ _ _ h => h) (Or.inl ⟨by rfl, ?_⟩) (by assumption) ?_
          · intro w' hSw
            first | (go_simp; done) | rfl | (go_simp; intro hx; exact absurd hx (by omega)) | (go_simp; rw [if_pos (by omega), if_neg (by omega)])
          try simp only [Act.put, List.getElem_toArray, List.getElem_cons_succ, List.getElem_cons_zero, List.setIfInBounds_toArray, List.set_cons_zero, List.set_cons_succ]
          refine wpAnyH_take (i := 1) (v := .pointer (some ⟨b, o, none⟩)) rfl (by kernel_rfl) (by kernel_rfl) (by kernel_rfl) (fun _ _ _ h => h) (Or.inl ⟨by rfl, ?_⟩) (by assumption) ?_
          · intro w' hSw
            first | (go_simp; done) | rfl | (go_simp; intro hx; exact absurd hx (by omega)) | (go_simp; rw [if_pos (by omega), if_neg (by omega)])
          try simp only [Act.put, List.getElem_toArray, List.getElem_cons_succ, List.getElem_cons_zero, List.setIfInBounds_toArray, List.set_cons_zero, List.set_cons_succ]
          refine wpAnyH_take (i := 2) (v := .agg #[.int .u8 t0.h.k, .int .i64 t0.h.v, .slice q0 t0.ks.length d0]) rfl (by kernel_rfl) (by kernel_rfl) (by kernel_rfl) (fun _ _ _ h => h) (Or.inl ⟨by rfl, ?_⟩) (by assumption) ?_
          · intro w' hSw
            obtain ⟨⟨g0, g1, g2⟩, m0, m1, m2⟩ := HLI.out _ hSw
            first | (go_simp; done) | rfl | (go_simp; intro hx; exact absurd hx (by omega)) | (go_simp; rw [if_pos (by omega), if_neg (by omega)])
          try simp only [Act.put, List.getElem_toArray, List.getElem_cons_succ, List.getElem_cons_zero, List.setIfInBounds_toArray, List.set_cons_zero, List.set_cons_succ]
          refine wpAnyH_take (i := 3) (v := .slice (some ⟨b, o, none⟩) l d) rfl (by kernel_rfl) (by kernel_rfl) (by kernel_rfl) (fun _ _ _ h => h) (Or.inl ⟨by rfl, ?_⟩) (by assumption) ?_
          · intro w' hSw
            first | (go_simp; done) | rfl | (go_simp; intro hx; exact absurd hx (by omega)) | (go_simp; rw [if_pos (by omega), if_neg (by omega)])
          try simp only [Act.put, List.getElem_toArray, List.getElem_cons_succ, List.getElem_cons_zero, List.setIfInBounds_toArray, List.set_cons_zero, List.set_cons_succ]
          refine wpAnyH_take (i := 4) (v := .pointer (some ⟨b, o + 3, none⟩)) rfl (by kernel_rfl) (by kernel_rfl) (by kernel_rfl) (fun _ _ _ h => h) (Or.inl ⟨by rfl, ?_⟩) (by assumption) ?_
          · intro w' hSw
            first | (go_simp; done) | rfl | (go_simp; intro hx; exact absurd hx (by omega)) | (go_simp; rw [if_pos (by omega), if_neg (by omega)])
          try simp only [Act.put, List.getElem_toArray, List.getElem_cons_succ, List.getElem_cons_zero, List.setIfInBounds_toArray, List.set_cons_zero, List.set_cons_succ]
          refine wpAnyH_take (i := 5) (v := .agg #[.int .u8 t1.h.k, .int .i64 t1.h.v, .slice q1 t1.ks.length d1]) rfl (by kernel_rfl) (by kernel_rfl) (by kernel_rfl) (fun _ _ _ h => h) (Or.inl ⟨by rfl, ?_⟩) (by assumption) ?_
          · intro w' hSw
            obtain ⟨⟨g0, g1, g2⟩, m0, m1, m2⟩ := HLI.out _ hSw
            first | (go_simp; done) | rfl | (go_simp; intro hx; exact absurd hx (by omega)) | (go_simp; rw [if_pos (by omega), if_neg (by omega)])
          try simp only [Act.put, List.getElem_toArray, List.getElem_cons_succ, List.getElem_cons_zero, List.setIfInBounds_toArray, List.set_cons_zero, List.set_cons_succ]
          refine wpAnyH_take (i := 7) (v := .slice (some ⟨b, o, none⟩) l d) rfl (by kernel_rfl) (by kernel_rfl) (by kernel_rfl) (fun _ _ _ h => h) (Or.inl ⟨by rfl, ?_⟩) (by assumption) ?_
          · intro w' hSw
            first | (go_simp; done) | rfl | (go_simp; intro hx; exact absurd hx (by omega)) | (go_simp; rw [if_pos (by omega), if_neg (by omega)])
          try simp only [Act.put, List.getElem_toArray, List.getElem_cons_succ, List.getElem_cons_zero, List.setIfInBounds_toArray, List.set_cons_zero, List.set_cons_succ]
          refine wpAnyH_take (i := 8) (v := .slice (some ⟨b, o, none⟩) 2 d) rfl (by kernel_rfl) (by kernel_rfl) (by kernel_rfl) (fun _ _ _ h => h) (Or.inl ⟨by rfl, ?_⟩) (by assumption) ?_
          · intro w' hSw
            first | (go_simp; done) | rfl | (go_simp; intro hx; exact absurd hx (by omega)) | (go_simp; rw [if_pos (by omega), if_neg (by omega)])
          try simp only [Act.put, List.getElem_toArray, List.getElem_cons_succ, List.getElem_cons_zero, List.setIfInBounds_toArray, List.set_cons_zero, List.set_cons_succ]
          refine wpAnyH_ready (rs := [6]) (by kernel_rfl) (by simp) ?_
          refine AllReadyH.cons rfl (fun K hK => ?_) AllReadyH.nil
          have HK2 := Lib.hid hK
          clear hK
          go_simp
          refine (pair_walk t0 t1 _ _ q0 q1 _ d0 _ d1 _ (HT0.out.below hSv0) (HT1.out.below hSv0) (by have := HW2.out; omega)).mono ?_
          rintro e v1 ⟨qp, cp, rfl, hTp, hb1⟩
          have hSv1 := below_then hSv0 hb1 hSv0.size
          have HTP := Lib.hid (hTp.reads' (veil_reads _ _))
          clear hb1 hTp
          refine HK2.out _ _ hSv1 (fun hHeld => ?_)
          clear HK2 hHeld
          try simp only [Act.put, List.getElem_toArray, List.getElem_cons_succ, List.getElem_cons_zero, List.setIfInBounds_toArray, List.set_cons_zero, List.set_cons_succ]
          clear K
          refine wpAnyH_ready (rs := [9]) (by kernel_rfl) (by simp) ?_
          refine AllReadyH.cons rfl (fun K hK => ?_) AllReadyH.nil
          have HK2 := Lib.hid hK
          clear hK
          go_simp
          refine (refOf_walk 2 _ _ _ _).mono ?_
          rintro e v2 ⟨rfl, hb2⟩
          have hSv2 := below_then hSv1 hb2 hSv1.size
          have HTP2 := Lib.hid (HTP.out.below hb2)
          clear hb2
          refine HK2.out _ _ hSv2 (fun hHeld => ?_)
          clear HK2 hHeld
          try simp only [Act.put, List.getElem_toArray, List.getElem_cons_succ, List.getElem_cons_zero, List.setIfInBounds_toArray, List.set_cons_zero, List.set_cons_succ]
          clear K
          refine wpAnyH_ready (rs := [10]) (by kernel_rfl) (by simp) ?_
          refine AllReadyH.cons rfl (fun K hK => ?_) AllReadyH.nil
          have HK2 := Lib.hid hK
          clear hK
          go_simp
          refine (refSame_walk _ (.node ⟨2, 0⟩ [t0, t1]) (.node ⟨2, 0⟩ [t0, t1]) ⟨2, 0⟩ ⟨2, 0⟩ qp (some ⟨b, o, none⟩) 2 cp 2 d v2 (Nat.le_refl _) HTP2.out ⟨rfl, rfl, ok_node (by omega), ⟨by omega, hdm⟩, HKT.out.stay hSv2⟩).mono ?_
          rintro e v3 ⟨rfl, hb3⟩
          rw [same_self]
          have hSv3 := below_then hSv2 hb3 hSv2.size
          clear hb3
          refine HK2.out _ _ hSv3 (fun hHeld => ?_)
          clear HK2 hHeld
          try simp only [Act.put, List.getElem_toArray, List.getElem_cons_succ, List.getElem_cons_zero, List.setIfInBounds_toArray, List.set_cons_zero, List.set_cons_succ]
          clear K
          refine wpAnyH_take (i := 11) (v := .bool true) rfl (by kernel_rfl) (by kernel_rfl) (by kernel_rfl) (fun _ _ _ h => h) (Or.inl ⟨by rfl, ?_⟩) (by assumption) ?_
          · intro w' hSw
            first | (go_simp; done) | rfl | (go_simp; intro hx; exact absurd hx (by omega)) | (go_simp; rw [if_pos (by omega), if_neg (by omega)])
          try simp only [Act.put, List.getElem_toArray, List.getElem_cons_succ, List.getElem_cons_zero, List.setIfInBounds_toArray, List.set_cons_zero, List.set_cons_succ]
          refine wpAnyH_take (i := 12) (v := .slice (some ⟨b, o, none⟩) l d) rfl (by kernel_rfl) (by kernel_rfl) (by kernel_rfl) (fun _ _ _ h => h) (Or.inl ⟨by rfl, ?_⟩) (by assumption) ?_
          · intro w' hSw
            first | (go_simp; done) | rfl | (go_simp; intro hx; exact absurd hx (by omega)) | (go_simp; rw [if_pos (by omega), if_neg (by omega)])
          try simp only [Act.put, List.getElem_toArray, List.getElem_cons_succ, List.getElem_cons_zero, List.setIfInBounds_toArray, List.set_cons_zero, List.set_cons_succ]
          refine wpAnyH_take (i := 13) (v := .pointer (some ⟨b, o + 3, none⟩)) rfl (by kernel_rfl) (by kernel_rfl) (by kernel_rfl) (fun _ _ _ h => h) (Or.inl ⟨by rfl, ?_⟩) (by assumption) ?_
          · intro w' hSw
            first | (go_simp; done) | rfl | (go_simp; intro hx; exact absurd hx (by omega)) | (go_simp; rw [if_pos (by omega), if_neg (by omega)])
          try simp only [Act.put, List.getElem_toArray, List.getElem_cons_succ, List.getElem_cons_zero, List.setIfInBounds_toArray, List.set_cons_zero, List.set_cons_succ]
          refine wpAnyH_take (i := 14) (v := .agg #[.int .u8 t1.h.k, .int .i64 t1.h.v, .slice q1 t1.ks.length d1]) rfl (by kernel_rfl) (by kernel_rfl) (by kernel_rfl) (fun _ _ _ h => h) (Or.inl ⟨by rfl, ?_⟩) (by assumption) ?_
          · intro w' hSw
            obtain ⟨⟨g0, g1, g2⟩, m0, m1, m2⟩ := HLI.out _ hSw
            first | (go_simp; done) | rfl | (go_simp; intro hx; exact absurd hx (by omega)) | (go_simp; rw [if_pos (by omega), if_neg (by omega)])
          try simp only [Act.put, List.getElem_toArray, List.getElem_cons_succ, List.getElem_cons_zero, List.setIfInBounds_toArray, List.set_cons_zero, List.set_cons_succ]
          refine wpAnyH_take (i := 16) (v := .slice (some ⟨b, o, none⟩) l d) rfl (by kernel_rfl) (by kernel_rfl) (by kernel_rfl) (fun _ _ _ h => h) (Or.inl ⟨by rfl, ?_⟩) (by assumption) ?_
          · intro w' hSw
            first | (go_simp; done) | rfl | (go_simp; intro hx; exact absurd hx (by omega)) | (go_simp; rw [if_pos (by omega), if_neg (by omega)])
          try simp only [Act.put, List.getElem_toArray, List.getElem_cons_succ, List.getElem_cons_zero, List.setIfInBounds_toArray, List.set_cons_zero, List.set_cons_succ]
          refine wpAnyH_take (i := 17) (v := .slice (some ⟨b, o + 3, none⟩) 1 (d - 1)) rfl (by kernel_rfl) (by kernel_rfl) (by kernel_rfl) (fun _ _ _ h => h) (Or.inl ⟨by rfl, ?_⟩) (by assumption) ?_
          · intro w' hSw
            first | (go_simp; done) | rfl | (go_simp; intro hx; exact absurd hx (by omega)) | (go_simp; rw [if_pos (by omega), if_neg (by omega)])
          try simp only [Act.put, List.getElem_toArray, List.getElem_cons_succ, List.getElem_cons_zero, List.setIfInBounds_toArray, List.set_cons_zero, List.set_cons_succ]
          refine wpAnyH_ready (rs := [15]) (by kernel_rfl) (by simp) ?_
          refine AllReadyH.cons rfl (fun K hK => ?_) AllReadyH.nil
          have HK2 := Lib.hid hK
          clear hK
          go_simp
          refine (ref_walk t1 _ q1 _ d1 _ (HT1.out.below hSv3) (by have := HW2.out; omega)).mono ?_
          rintro e v4 ⟨qr, cr, rfl, hTr, hb4⟩
          have hSv4 := below_then hSv3 hb4 hSv3.size
          have HTR := Lib.hid (hTr.reads' (veil_reads _ _))
          clear hb4 hTr
          refine HK2.out _ _ hSv4 (fun hHeld => ?_)
          clear HK2 hHeld
          try simp only [Act.put, List.getElem_toArray, List.getElem_cons_succ, List.getElem_cons_zero, List.setIfInBounds_toArray, List.set_cons_zero, List.set_cons_succ]
          clear K
          refine wpAnyH_ready (rs := [18]) (by kernel_rfl) (by simp) ?_
          refine AllReadyH.cons rfl (fun K hK => ?_) AllReadyH.nil
          have HK2 := Lib.hid hK
          clear hK
          go_simp
          refine (refOf_walk 3 _ _ _ _).mono ?_
          rintro e v5 ⟨rfl, hb5⟩
          have hSv5 := below_then hSv4 hb5 hSv4.size
          have HTR2 := Lib.hid (HTR.out.below hb5)
          clear hb5
          refine HK2.out _ _ hSv5 (fun hHeld => ?_)
          clear HK2 hHeld
          try simp only [Act.put, List.getElem_toArray, List.getElem_cons_succ, List.getElem_cons_zero, List.setIfInBounds_toArray, List.set_cons_zero, List.set_cons_succ]
          clear K
          refine wpAnyH_ready (rs := [19]) (by kernel_rfl) (by simp) ?_
          refine AllReadyH.cons rfl (fun K hK => ?_) AllReadyH.nil
          have HK2 := Lib.hid hK
          clear hK
          go_simp
          refine (refSame_walk _ (.node ⟨3, 0⟩ [t1]) (.node ⟨3, 0⟩ [t1]) ⟨3, 0⟩ ⟨3, 0⟩ qr (some ⟨b, o + 3, none⟩) 1 cr 1 (d - 1) v5 (Nat.le_refl _) HTR2.out ⟨rfl, rfl, ok_node (by omega), ⟨by omega, by omega⟩, HKD.out.stay hSv5⟩).mono ?_
          rintro e v6 ⟨rfl, hb6⟩
          rw [same_self]
          have hSv6 := below_then hSv5 hb6 hSv5.size
          clear hb6
          refine HK2.out _ _ hSv6 (fun hHeld => ?_)
          clear HK2 hHeld
          try simp only [Act.put, List.getElem_toArray, List.getElem_cons_succ, List.getElem_cons_zero, List.setIfInBounds_toArray, List.set_cons_zero, List.set_cons_succ]
          clear K
          refine wpAnyH_take (i := 20) (v := .bool true) rfl (by kernel_rfl) (by kernel_rfl) (by kernel_rfl) (fun _ _ _ h => h) (Or.inl ⟨by rfl, ?_⟩) (by assumption) ?_
          · intro w' hSw
            first | (go_simp; done) | rfl | (go_simp; intro hx; exact absurd hx (by omega)) | (go_simp; rw [if_pos (by omega), if_neg (by omega)])
          try simp only [Act.put, List.getElem_toArray, List.getElem_cons_succ, List.getElem_cons_zero, List.setIfInBounds_toArray, List.set_cons_zero, List.set_cons_succ]
          refine wpAnyH_take (i := 21) (v := .bool true) rfl (by kernel_rfl) (by kernel_rfl) (by kernel_rfl) (fun _ _ _ h => h) (Or.inl ⟨by rfl, ?_⟩) (by assumption) ?_
          · intro w' hSw
            first | (go_simp; done) | rfl | (go_simp; intro hx; exact absurd hx (by omega)) | (go_simp; rw [if_pos (by omega), if_neg (by omega)])
          try simp only [Act.put, List.getElem_toArray, List.getElem_cons_succ, List.getElem_cons_zero, List.setIfInBounds_toArray, List.set_cons_zero, List.set_cons_succ]
          refine wpAnyH_ready (rs := [22]) (by kernel_rfl) (by simp) ?_
          refine AllReadyH.cons rfl (fun K hK => ?_) AllReadyH.nil
          have HK2 := Lib.hid hK
          clear hK
          go_simp
          refine (HAW.out _ hSv6).mono ?_
          rintro e v7 ⟨rfl, hb7⟩
          have hSv7 := below_then hSv6 hb7 hSv6.size
          clear hb7
          refine HK2.out _ _ hSv7 (fun hHeld => ?_)
          clear HK2 hHeld
          try simp only [Act.put, List.getElem_toArray, List.getElem_cons_succ, List.getElem_cons_zero, List.setIfInBounds_toArray, List.set_cons_zero, List.set_cons_succ]
          clear K
          refine wpAnyH_take (i := 23) (v := .bool true) rfl (by kernel_rfl) (by kernel_rfl) (by kernel_rfl) (fun _ _ _ h => h) (Or.inl ⟨by rfl, ?_⟩) (by assumption) ?_
          · intro w' hSw
            first | (go_simp; done) | rfl | (go_simp; intro hx; exact absurd hx (by omega)) | (go_simp; rw [if_pos (by omega), if_neg (by omega)])
          try simp only [Act.put, List.getElem_toArray, List.getElem_cons_succ, List.getElem_cons_zero, List.setIfInBounds_toArray, List.set_cons_zero, List.set_cons_succ]
          refine wpAnyH_ready (rs := [24]) (by kernel_rfl) (by simp) ?_
          refine AllReadyH.cons rfl (fun K hK => ?_) AllReadyH.nil
          have HK2 := Lib.hid hK
          clear hK
          go_simp
          refine HK2.out _ _ hSv7 (fun hHeld => ?_)
          clear HK2 hHeld
          try simp only [Act.put, List.getElem_toArray, List.getElem_cons_succ, List.getElem_cons_zero, List.setIfInBounds_toArray, List.set_cons_zero, List.set_cons_succ]
          clear K
          refine wpAnyH_done (by kernel_rfl) ?_ _
          have HEND := Lib.hid hSv7
          go_wp2_with (fail)
          go_ret
          exact ⟨rfl, HEND.out⟩
end Types
end Go.Proofs.YtgcnibipikondaaDoor
