/- The walk of layer 9's statement on types that are made the same again. -/
import Derived.Test.YtjchplgapaeagaaDoorUnTurnsW
import Derived.OrdersHeld
namespace Go.Proofs.YtjchplgapaeagaaDoor
open Go.RowKit
set_option linter.unusedVariables false
set_option linter.unusedSimpArgs false
namespace Types

/-- A book as it is told, and all else as it was. -/
structure Solo (P : Nat → Bool) (k : Bk) (w : World) (n : Nat) (S : (Nat → Ty) → Prop) (σ : Nat → Ty) (m : Nat) (W : World) : Prop where
  b : Book P k W n S σ m
  k : Kp P w W
theorem Solo.below {P : Nat → Bool} {k : Bk} {w W W' : World} {n m : Nat} {S : (Nat → Ty) → Prop} {σ : Nat → Ty} (h : Solo P k w n S σ m W) (hb : Below W.heap.size W W') : Solo P k w n S σ m W' := ⟨h.b.below hb, h.k.trans (Kp.of_below hb)⟩
theorem again_sol {S : (Nat → Ty) → Prop} {ts : List Ty} {a b : Ty} (ha : a ∈ ts) (hb : b ∈ ts) (θ : Nat → Ty) : (S θ ∧ AllOne ts θ) ∧ AllOne [a, b] θ ↔ S θ ∧ AllOne ts θ :=
  ⟨fun h => h.1, fun h => ⟨h, (allOne_two a b θ).2 (h.2 a ha b hb)⟩⟩
set_option maxRecDepth 100000 in
set_option maxHeartbeats 12800000 in
theorem unifyAgain_walk (n : Int) (p : Option Addr) (l d : Nat) (ts : List Ty) (kk : Int) (w : World) (hn : 0 ≤ n ∧ n ≤ 255) (hk0 : 0 ≤ kk ∧ kk ≤ 255) (hl : ts.length = l) (hm : l ≤ maxLen) (hK : Kids w p ts) (hkl : KidsLaid w) :
    Calls Tryd.prog 8 #[.int .u8 n, .slice p l d, .int .u8 kk] w fun e w' => e = .returned (.bool true) ∧ Below w.heap.size w w' := by
  have haw := fun W (hb : Below w.heap.size w W) => awake_walk W (hkl.below hb)
  have HAW := Lib.hid haw
  by_cases h20 : n ≤ 20
  case neg =>
    have HR := Lib.hid (Below.refl w.heap.size w)
    clear hn hl hm hK hkl haw
    go_enter Tryd.func8, Tryd.ntmps8
    go_wp2_with (fail)
    refine (HAW.out _ HR.out).mono ?_
    rintro e wa ⟨rfl, hba⟩
    have HA := Lib.hid (HR.out.trans (hba.mono HR.out.size))
    clear hba
    go_wp2_with (fail)
    go_ret
    exact ⟨rfl, HA.out⟩
  obtain ⟨N, rfl⟩ : ∃ N : Nat, n = (N : Int) := ⟨n.toNat, by omega⟩
  have hN : N ≤ 20 := by omega
  obtain ⟨kn, rfl⟩ : ∃ N : Nat, kk = (N : Int) := ⟨kk.toNat, by omega⟩
  have hkn : kn ≤ 255 := by omega
  have hgw := lgreat_walk ts p l d w hl hm hK
  have HGW := Lib.hid hgw; have HL := Lib.hid hl; have HK := Lib.hid hK; have HKL := Lib.hid hkl
  clear hn hgw hl hm hK hkl haw h20 hk0
  go_enter Tryd.func8, Tryd.ntmps8
  go_wp2_with (fail)
  refine HGW.out.mono ?_
  rintro e w1 ⟨b, rfl, hf, hb1⟩
  have H1 := Lib.hid hb1
  clear hb1 HGW
  cases b with
  | true =>
    clear hf
    go_wp2_with (fail)
    refine (HAW.out _ H1.out).mono ?_
    rintro e wa ⟨rfl, hba⟩
    have HA := Lib.hid (H1.out.trans (hba.mono H1.out.size))
    clear hba
    go_wp2_with (fail)
    go_ret
    exact ⟨rfl, HA.out⟩
  | false =>
    have HF := Lib.hid (hf rfl)
    clear hf
    go_wp2_with (fail)
    refine (bnew_walk (PB w1.heap.size 3) w1 (pb_false (by omega)) (pb_false (by omega)) (pb_false (by omega))).mono ?_
    rintro e w3 ⟨rfl, hb3, hB3, hs3⟩
    obtain ⟨k, hk⟩ : ∃ k : Bk, k = ⟨w1.heap.size + 2, w1.heap.size, w1.heap.size + 1⟩ := ⟨_, rfl⟩
    have hkb : w1.heap.size + 2 = k.b := by rw [hk]
    rw [← hk] at hB3
    rw [hkb]
    obtain ⟨P, hP⟩ : ∃ P, P = PB w1.heap.size 3 := ⟨_, rfl⟩
    rw [← hP] at hB3
    have HT3 := Lib.hid (show Solo P k w3 0 (fun _ => True) tyV 0 w3 from ⟨hB3, Kp.refl _ _⟩)
    have HP := Lib.hid (show (∀ b, w3.heap.size ≤ b → P b = true) ∧ (∀ b, b < w1.heap.size → P b = true) from by
      subst hP
      exact ⟨fun b hb => pb_true (by omega), fun b hb => pb_true (by omega)⟩)
    have HKE := Lib.hid (show k.b < w3.heap.size ∧ k.s < w3.heap.size ∧ k.i < w3.heap.size from by subst hk; exact ⟨by dsimp only; omega, by dsimp only; omega, by dsimp only; omega⟩)
    have H3 := Lib.hid (show Below w.heap.size w w3 from H1.out.trans (hb3.mono H1.out.size))
    have HKP := Lib.hid (show Kids (veil P w3) p ts from HK.out.reads' (veil_from fun b hb => ⟨HP.out.2 b (Nat.lt_of_lt_of_le hb H1.out.size), H3.out.block b hb⟩))
    have HPW := Lib.hid (show ∀ b, b < w.heap.size → P b = true from fun b hb => HP.out.2 b (Nat.lt_of_lt_of_le hb H1.out.size))
    clear hk hkb hB3 hb3 hs3 hP
    go_wp2_with (fail)
    go_loopw [8] (fun i wr => ∃ j : Nat, j ≤ N ∧ i = .int .i64 j ∧ Hid (Solo P k w3 j (fun _ => True) tyV 0 wr)) (fun i _ => N - (intOf i).toNat)
    case atStart => exact ⟨0, Nat.zero_le _, rfl, HT3⟩
    case round =>
      obtain ⟨j, hj, rfl, HT⟩ := hrel
      by_cases hlt : j < N
      · have hfw := bfresh_walk wr HT.out.b (by omega)
        have HFW := Lib.hid hfw
        clear hfw
        go_wp2_with (fail)
        refine HFW.out.mono ?_
        rintro e w4 ⟨rfl, hB4, hk4⟩
        have HT4 := Lib.hid (show Solo P k w3 (j + 1) (fun _ => True) tyV 0 w4 from ⟨hB4, HT.out.k.trans (HT.out.b.kpP hk4)⟩)
        clear hB4 hk4 HFW
        go_wp2_with (fail)
        go_roundw
        case rel => exact ⟨j + 1, by omega, by go_num, HT4⟩
        case measure => simp [intOf]; omega
      · obtain rfl : N = j := by omega
        obtain ⟨w4, hw4⟩ : ∃ w4, w4 = wr := ⟨_, rfl⟩
        subst hw4
        have HT4 := HT
        have H4 := Lib.hid (HT.out.k.below_of H3.out (w0 := w) HPW.out)
        have hkp4 := HT.out.k.kids HKP.out
        have hnv := few_nv HF.out
        have hl10 : l ≤ 10 := by rw [← HL.out]; exact HF.out.1
        have hjw := bjoin_walk ts p l d w4 HT.out.b (fun b hb => HP.out.1 b (Nat.le_trans HT.out.k.size hb)) (hkp4.reads' (veil_reads _ _)) hkp4 HL.out (HKL.out.below H4.out) (by omega)
        have HJW := Lib.hid hjw; have HKP4 := Lib.hid hkp4; have HNV := Lib.hid hnv
        clear hjw hkp4 hnv HT3 HT
        go_wp2_with (fail)
        refine HJW.out.mono ?_
        rintro e w5 ⟨hk5, ⟨rfl, hB5, -⟩ | ⟨rfl, hhas, σ, hB5⟩⟩
        · have H5 := Lib.hid (((HT4.out.k.trans (HT4.out.b.kpP hk5)).below_of H3.out (w0 := w) HPW.out))
          clear hk5 hB5 HJW
          go_wp2_with (fail)
          refine (HAW.out _ H5.out).mono ?_
          rintro e wa ⟨rfl, hba⟩
          have HA := Lib.hid (H5.out.trans (hba.mono H5.out.size))
          clear hba
          go_wp2_with (fail)
          go_ret
          exact ⟨rfl, HA.out⟩
        · have HT5 := Lib.hid (show Solo P k w3 N (fun θ => True ∧ AllOne ts θ) σ (N + 0 + nvK ts) w5 from ⟨hB5, HT4.out.k.trans (HT4.out.b.kpP hk5)⟩)
          have HHAS := Lib.hid hhas
          have H5 := Lib.hid (HT5.out.k.below_of H3.out (w0 := w) HPW.out)
          clear hk5 hB5 hhas HJW HT4 H4 HKP4
          have hmod : ((kn : Int)).tmod 20 = ((kn % 20 : Nat) : Int) := by rw [Int.tmod_eq_emod_of_nonneg (by omega)]; omega
          have hmn : kn % 20 < 20 := by omega
          generalize kn % 20 = x at *
          go_wp2_with (fail)
          refine (v_walk _ w5).mono ?_
          rintro e w6 ⟨rfl, hb6⟩
          have hT6 := HT5.out.below hb6
          have H6 := Lib.hid (hT6.k.below_of H3.out (w0 := w) HPW.out)
          have hsw := bsense_walk ⟨5, (x : Nat)⟩ none 0 0 (tyV x) 2000 w6 hT6.b (tyV_is _ (by omega)) (tyV_is _ (by omega)) (HKL.out.below H6.out) (by omega) (by have := HNV.out; omega) (by rw [wt_tyV]; omega) (by omega)
          have HSW := Lib.hid hsw; have HT6 := Lib.hid hT6
          clear hb6 hT6 hsw
          go_wp2_with (fail)
          refine HSW.out.mono ?_
          rintro e w7 ⟨hB7, hk7, ⟨x0, x1⟩, q7, l7, c7, rfl, hx7⟩
          have hT7 : Solo P k w3 N (fun θ => True ∧ AllOne ts θ) σ (N + 0 + nvK ts) w7 := ⟨hB7, HT6.out.k.trans (HT6.out.b.kpP hk7)⟩
          have HLOW := Lib.hid HT6.out.b.low.2.2.2
          have HLE7 := Lib.hid hk7.size
          obtain ⟨O7, hO7⟩ : ∃ O, O = Obj.cells #[.int .u8 x0, .int .i64 x1, .slice q7 l7 c7] 25 := ⟨_, rfl⟩
          have hal := al_new (W := w7) O7
          have HT8 := Lib.hid (hT7.below hal)
          have HX8 := Lib.hid (ty_bel hx7 hal)
          have HB8 := Lib.hid (show (w7.alloc O7).heap[w7.heap.size]? = some (.cells #[.int .u8 x0, .int .i64 x1, .slice q7 l7 c7] 25 (0, 0)) from by rw [hO7]; exact heap_alloc_new w7 _)
          subst hO7
          clear hB7 hk7 hx7 hT7 hal HSW HT6 H6 HT5 H5
          generalize hE : outE N σ (tyV x) 2000 = EE at *
          have HE := Lib.hid hE
          clear hE
          go_wp2_with (fail)
          go_loopw [11] (fun i wr => ∃ j : Nat, j ≤ l ∧ i = .int .i64 j ∧ Hid (Solo P k w3 N (fun θ => True ∧ AllOne ts θ) σ (N + 0 + nvK ts + j * 200) wr) ∧ Hid (TyIs (veil (from_ w6.heap.size) wr) ⟨x0, x1⟩ q7 l7 c7 (outT N σ (tyV x) 2000)) ∧ Hid (wr.heap[w7.heap.size]? = some (.cells #[.int .u8 x0, .int .i64 x1, .slice q7 l7 c7] 25 (0, 0)))) (fun i _ => l - (intOf i).toNat)
          case atStart => exact ⟨0, Nat.zero_le _, rfl, HT8, HX8, HB8⟩
          case round =>
            obtain ⟨j, hj, rfl, HT, HX, HBX⟩ := hrel
            have HBW := Lib.hid (HT.out.k.below_of H3.out (w0 := w) HPW.out)
            by_cases hlt : j + 1 < l
            · have hik : j + 1 < ts.length := by rw [HL.out]; exact hlt
              have hkw := HT.out.k.kids HKP.out
              obtain ⟨b, o, q1, c1, rfl, hT1, d0, d1, d2⟩ := hkw.get (j + 1) hik
              obtain ⟨b', o', q0, c0, hp, hT0, g0, g1, g2⟩ := hkw.get j (by omega)
              injection hp with hp
              injection hp with hp1 hp2
              subst hp1 hp2
              have hbp := (veil_seen d0).1
              have hbl := World.block_lt_of_cell? _ _ (veil_seen d0).2
              have HC1 := Lib.hid (And.intro (veil_seen d0).2 (And.intro (veil_seen d1).2 (veil_seen d2).2))
              have HC0 := Lib.hid (And.intro (veil_seen g0).2 (And.intro (veil_seen g1).2 (veil_seen g2).2))
              have HBL := Lib.hid (show b < wr.heap.size ∧ P b = true from ⟨hbl, hbp⟩)
              have HTY := Lib.hid (And.intro hT1 hT0)
              have HIK := Lib.hid hik
              have hj1 : IntKind.i64.wrap ((j : Int) + 1) = ((j + 1 : Nat) : Int) := by rw [IntWalk.i64_in _ (by omega)]; omega
              have HJ1 := Lib.hid hj1
              clear hik hkw hT1 hT0 d0 d1 d2 g0 g1 g2 hbp hbl hj1
              go_upto_region 14 with (fail)
              refine wp_region_held_drew (S := fun V => ∀ i, i < wr.heap.size → P i = true → V.heap[i]? = wr.heap[i]?) (by kernel_rfl) (fun _ _ _ => rfl) (fun hHeld => ?_)
              refine wpAnyH_take (i := 0) (v := .pointer (some ⟨k.b, 0, none⟩)) rfl (by kernel_rfl) (by kernel_rfl) (by kernel_rfl) (fun _ _ _ h => h) (Or.inl ⟨by rfl, ?_⟩) (by assumption) ?_
              · intro w' hSw
                first | (go_simp; done) | (go_simp; intro h0; omega) | rfl
              try simp only [Act.put, List.getElem_toArray, List.getElem_cons_succ, List.getElem_cons_zero, List.setIfInBounds_toArray, List.set_cons_zero, List.set_cons_succ]
              refine wpAnyH_take (i := 1) (v := .slice (some ⟨b, o, none⟩) l d) rfl (by kernel_rfl) (by kernel_rfl) (by kernel_rfl) (fun _ _ _ h => h) (Or.inl ⟨by rfl, ?_⟩) (by assumption) ?_
              · intro w' hSw
                first | (go_simp; done) | (go_simp; intro h0; omega) | rfl
              try simp only [Act.put, List.getElem_toArray, List.getElem_cons_succ, List.getElem_cons_zero, List.setIfInBounds_toArray, List.set_cons_zero, List.set_cons_succ]
              refine wpAnyH_take (i := 2) (v := .int .i64 (j : Int)) rfl (by kernel_rfl) (by kernel_rfl) (by kernel_rfl) (fun _ _ _ h => h) (Or.inl ⟨by rfl, ?_⟩) (by assumption) ?_
              · intro w' hSw
                first | (go_simp; done) | (go_simp; intro h0; omega) | rfl
              try simp only [Act.put, List.getElem_toArray, List.getElem_cons_succ, List.getElem_cons_zero, List.setIfInBounds_toArray, List.set_cons_zero, List.set_cons_succ]
              refine wpAnyH_take (i := 3) (v := .int .i64 ((j + 1 : Nat) : Int)) rfl (by kernel_rfl) (by kernel_rfl) (by kernel_rfl) (fun _ _ _ h => h) (Or.inl ⟨by rfl, ?_⟩) (by assumption) ?_
              · intro w' hSw
                have hj1 := HJ1.out
                first | (go_simp; done) | (go_simp; intro h0; omega) | rfl
              try simp only [Act.put, List.getElem_toArray, List.getElem_cons_succ, List.getElem_cons_zero, List.setIfInBounds_toArray, List.set_cons_zero, List.set_cons_succ]
              refine wpAnyH_take (i := 4) (v := .pointer (some ⟨b, o + (j + 1) * 3, none⟩)) rfl (by kernel_rfl) (by kernel_rfl) (by kernel_rfl) (fun _ _ _ h => h) (Or.inl ⟨by rfl, ?_⟩) (by assumption) ?_
              · intro w' hSw
                first | (go_simp; done) | (go_simp; intro h0; omega) | rfl
              try simp only [Act.put, List.getElem_toArray, List.getElem_cons_succ, List.getElem_cons_zero, List.setIfInBounds_toArray, List.set_cons_zero, List.set_cons_succ]
              refine wpAnyH_take (i := 5) (v := .agg #[.int .u8 (tget ts (j + 1)).h.k, .int .i64 (tget ts (j + 1)).h.v, .slice q1 (tget ts (j + 1)).ks.length c1]) rfl (by kernel_rfl) (by kernel_rfl) (by kernel_rfl) (fun _ _ _ h => h) (Or.inl ⟨by rfl, ?_⟩) (by assumption) ?_
              · intro w' hSw
                have hcs : ∀ i, w'.cell? ⟨b, i, none⟩ = wr.cell? ⟨b, i, none⟩ := fun i => cell_same (hSw b HBL.out.1 HBL.out.2)
                have y0 := (hcs (o + (j + 1) * 3)).trans HC1.out.1
                have y1 := (hcs (o + (j + 1) * 3 + 1)).trans HC1.out.2.1
                have y2 := (hcs (o + (j + 1) * 3 + 2)).trans HC1.out.2.2
                clear hcs
                first | (go_simp; done) | (go_simp; intro h0; omega) | rfl
              try simp only [Act.put, List.getElem_toArray, List.getElem_cons_succ, List.getElem_cons_zero, List.setIfInBounds_toArray, List.set_cons_zero, List.set_cons_succ]
              refine wpAnyH_take (i := 6) (v := .slice (some ⟨b, o, none⟩) l d) rfl (by kernel_rfl) (by kernel_rfl) (by kernel_rfl) (fun _ _ _ h => h) (Or.inl ⟨by rfl, ?_⟩) (by assumption) ?_
              · intro w' hSw
                first | (go_simp; done) | (go_simp; intro h0; omega) | rfl
              try simp only [Act.put, List.getElem_toArray, List.getElem_cons_succ, List.getElem_cons_zero, List.setIfInBounds_toArray, List.set_cons_zero, List.set_cons_succ]
              refine wpAnyH_take (i := 7) (v := .int .i64 (j : Int)) rfl (by kernel_rfl) (by kernel_rfl) (by kernel_rfl) (fun _ _ _ h => h) (Or.inl ⟨by rfl, ?_⟩) (by assumption) ?_
              · intro w' hSw
                first | (go_simp; done) | (go_simp; intro h0; omega) | rfl
              try simp only [Act.put, List.getElem_toArray, List.getElem_cons_succ, List.getElem_cons_zero, List.setIfInBounds_toArray, List.set_cons_zero, List.set_cons_succ]
              refine wpAnyH_take (i := 8) (v := .pointer (some ⟨b, o + j * 3, none⟩)) rfl (by kernel_rfl) (by kernel_rfl) (by kernel_rfl) (fun _ _ _ h => h) (Or.inl ⟨by rfl, ?_⟩) (by assumption) ?_
              · intro w' hSw
                first | (go_simp; done) | (go_simp; intro h0; omega) | rfl
              try simp only [Act.put, List.getElem_toArray, List.getElem_cons_succ, List.getElem_cons_zero, List.setIfInBounds_toArray, List.set_cons_zero, List.set_cons_succ]
              refine wpAnyH_take (i := 9) (v := .agg #[.int .u8 (tget ts j).h.k, .int .i64 (tget ts j).h.v, .slice q0 (tget ts j).ks.length c0]) rfl (by kernel_rfl) (by kernel_rfl) (by kernel_rfl) (fun _ _ _ h => h) (Or.inl ⟨by rfl, ?_⟩) (by assumption) ?_
              · intro w' hSw
                have hcs : ∀ i, w'.cell? ⟨b, i, none⟩ = wr.cell? ⟨b, i, none⟩ := fun i => cell_same (hSw b HBL.out.1 HBL.out.2)
                have y0 := (hcs (o + j * 3)).trans HC0.out.1
                have y1 := (hcs (o + j * 3 + 1)).trans HC0.out.2.1
                have y2 := (hcs (o + j * 3 + 2)).trans HC0.out.2.2
                clear hcs
                first | (go_simp; done) | (go_simp; intro h0; omega) | rfl
              try simp only [Act.put, List.getElem_toArray, List.getElem_cons_succ, List.getElem_cons_zero, List.setIfInBounds_toArray, List.set_cons_zero, List.set_cons_succ]
              refine wpAnyH_ready (rs := [10]) (by kernel_rfl) (by simp) ?_
              refine AllReadyH.cons rfl (fun K hK => ?_) AllReadyH.nil
              have HK2 := Lib.hid hK
              clear hK
              try rw [if_pos (by rfl)]
              go_simp
              refine HK2.out _ _ (fun i hi _ => (al_new (W := wr) (.cells #[.int .u8 (tget ts (j + 1)).h.k, .int .i64 (tget ts (j + 1)).h.v, .slice q1 (tget ts (j + 1)).ks.length c1, .int .u8 (tget ts j).h.k, .int .i64 (tget ts j).h.v, .slice q0 (tget ts j).ks.length c0] 25)).block i hi) (fun hHeld => ?_)
              clear HK2
              try simp only [Act.put, List.getElem_toArray, List.getElem_cons_succ, List.getElem_cons_zero, List.setIfInBounds_toArray, List.set_cons_zero, List.set_cons_succ]
              clear K
              have hb8 : Below wr.heap.size wr (wr.alloc (.cells #[.int .u8 (tget ts (j + 1)).h.k, .int .i64 (tget ts (j + 1)).h.v, .slice q1 (tget ts (j + 1)).ks.length c1, .int .u8 (tget ts j).h.k, .int .i64 (tget ts j).h.v, .slice q0 (tget ts j).ks.length c0] 25)).drew := ((Below.refl _ _).alloc (Nat.le_refl _) _).drew
              have hx8 : (wr.alloc (.cells #[.int .u8 (tget ts (j + 1)).h.k, .int .i64 (tget ts (j + 1)).h.v, .slice q1 (tget ts (j + 1)).ks.length c1, .int .u8 (tget ts j).h.k, .int .i64 (tget ts j).h.v, .slice q0 (tget ts j).ks.length c0] 25)).drew.heap[wr.heap.size]? = some (.cells #[.int .u8 (tget ts (j + 1)).h.k, .int .i64 (tget ts (j + 1)).h.v, .slice q1 (tget ts (j + 1)).ks.length c1, .int .u8 (tget ts j).h.k, .int .i64 (tget ts j).h.v, .slice q0 (tget ts j).ks.length c0] 25 (0, 0)) := heap_alloc_new wr _
              generalize hw8 : (wr.alloc (.cells #[.int .u8 (tget ts (j + 1)).h.k, .int .i64 (tget ts (j + 1)).h.v, .slice q1 (tget ts (j + 1)).ks.length c1, .int .u8 (tget ts j).h.k, .int .i64 (tget ts j).h.v, .slice q0 (tget ts j).ks.length c0] 25)).drew = w8 at *
              clear hw8
              have hT8 := HT.out.below hb8
              have hk8 : Kids (veil P w8) (some ⟨wr.heap.size, 0, none⟩) [tget ts (j + 1), tget ts j] := kids_blk hx8 (HP.out.1 _ HT.out.k.size) (flat_two ((Kp.of_below (P := P) hb8).ty HTY.out.1) ((Kp.of_below (P := P) hb8).ty HTY.out.2))
              have hjw := bjoin_walk [tget ts (j + 1), tget ts j] _ 2 2 w8 hT8.b (fun b hb => HP.out.1 b (Nat.le_trans hT8.k.size hb)) (hk8.reads' (veil_reads _ _)) hk8 rfl (HKL.out.below (hT8.k.below_of H3.out (w0 := w) HPW.out)) (by
                have h1 := HF.out.2 _ (tget_mem HIK.out); have h2 := HF.out.2 _ (tget_mem (Nat.lt_of_succ_lt HIK.out)); have h3 := nv_le (tget ts (j + 1)); have h4 := nv_le (tget ts j); have := HNV.out
                rw [nvK_cons, nvK_cons, nvK_nil]; omega)
              have HJW := Lib.hid hjw; have HT9 := Lib.hid hT8; have HX9 := Lib.hid (ty_bel HX.out hb8); have HB9 := Lib.hid ((hb8.block _ (lt_of_block HBX.out)).trans HBX.out); have HS8 := Lib.hid (fun i (hi : i < wr.heap.size) => hb8.block i hi); have HZ8 := Lib.hid hb8.size
              clear hjw hT8 hk8 hb8 hx8
              refine wpAnyH_ready (rs := [11]) (by kernel_rfl) (by simp) ?_
              refine AllReadyH.cons rfl (fun K hK => ?_) AllReadyH.nil
              have HK2 := Lib.hid hK
              clear hK
              try rw [if_pos (by rfl)]
              go_simp
              refine HJW.out.mono ?_
              rintro e w9 ⟨hk9, ⟨-, -, hno⟩ | ⟨rfl, -, σ', hB9⟩⟩
              · exfalso
                rcases hno with ⟨u, hu, hh⟩ | hno
                · simp only [List.mem_cons, List.not_mem_nil, or_false] at hu
                  rcases hu with rfl | rfl
                  · rw [HHAS.out _ (tget_mem HIK.out)] at hh; cases hh
                  · rw [HHAS.out _ (tget_mem (Nat.lt_of_succ_lt HIK.out))] at hh; cases hh
                · exact hno σ ((again_sol (S := fun _ => True) (ts := ts) (tget_mem HIK.out) (tget_mem (Nat.lt_of_succ_lt HIK.out)) σ).2 HT9.out.b.isSen.is)
              have hkP := HT9.out.b.kpP hk9
              have hB9' := hB9.sol (again_sol (S := fun _ => True) (tget_mem HIK.out) (tget_mem (Nat.lt_of_succ_lt HIK.out)))
              have e9 := isSen_eq hB9'.isSen HT9.out.b.isSen
              subst e9
              have HT10 := Lib.hid (show Solo P k w3 N (fun θ => True ∧ AllOne ts θ) σ' (N + 0 + nvK ts + (j + 1) * 200) w9 from ⟨hB9'.most (by
                have h1 := HF.out.2 _ (tget_mem HIK.out); have h2 := HF.out.2 _ (tget_mem (Nat.lt_of_succ_lt HIK.out)); have h3 := nv_le (tget ts (j + 1)); have h4 := nv_le (tget ts j)
                rw [nvK_cons, nvK_cons, nvK_nil]; omega), HT9.out.k.trans hkP⟩)
              have HX10 := Lib.hid (ty_kp HX9.out hk9 HLOW.out)
              have HB10 := Lib.hid ((hk9.block _ (lt_of_block HB9.out) (pk_true (by have := HLOW.out; have := HLE7.out; omega))).trans HB9.out)
              have HS10 := Lib.hid (fun i (hi : i < wr.heap.size) (hp : P i = true) => (hkP.block i (Nat.lt_of_lt_of_le hi HZ8.out) hp).trans (HS8.out i hi))
              clear hk9 hkP hB9 hB9' HJW HT9 HX9 HB9 HS8
              refine HK2.out _ _ HS10.out (fun hHeld => ?_)
              clear HK2
              try simp only [Act.put, List.getElem_toArray, List.getElem_cons_succ, List.getElem_cons_zero, List.setIfInBounds_toArray, List.set_cons_zero, List.set_cons_succ]
              clear K
              refine wpAnyH_take (i := 12) (v := .bool false) rfl (by kernel_rfl) (by kernel_rfl) (by kernel_rfl) (fun _ _ _ h => h) (Or.inl ⟨by rfl, ?_⟩) (by assumption) ?_
              · intro w' hSw
                first | (go_simp; done) | (go_simp; intro h0; omega) | rfl
              try simp only [Act.put, List.getElem_toArray, List.getElem_cons_succ, List.getElem_cons_zero, List.setIfInBounds_toArray, List.set_cons_zero, List.set_cons_succ]
              refine wpAnyH_done (by kernel_rfl) ?_ _
              clear hHeld HS10
              go_wp2_with (fail)
              go_roundw
              case rel => exact ⟨j + 1, by omega, by go_num, HT10, HX10, HB10⟩
              case measure => simp [intOf]; omega
            · go_wp2_with (fail)
              refine (v_walk _ wr).mono ?_
              rintro e w8 ⟨rfl, hb8⟩
              have hT8 := HT.out.below hb8
              have H8 := Lib.hid (hT8.k.below_of H3.out (w0 := w) HPW.out)
              have hsw := bsense_walk ⟨5, (x : Nat)⟩ none 0 0 (tyV x) 2000 w8 hT8.b (tyV_is _ (by omega)) (tyV_is _ (by omega)) (HKL.out.below H8.out) (by omega) (by have := HNV.out; omega) (by rw [wt_tyV]; omega) (by omega)
              rw [HE.out] at hsw
              have HSW := Lib.hid hsw; have HT8 := Lib.hid hT8; have HX9 := Lib.hid (ty_bel HX.out hb8); have HB9 := Lib.hid ((hb8.block _ (lt_of_block HBX.out)).trans HBX.out)
              clear hb8 hT8 hsw
              go_wp2_with (fail)
              refine HSW.out.mono ?_
              rintro e w9 ⟨hB9, hk9, ⟨y0, y1⟩, q9, l9, c9, rfl, hy9⟩
              have HY9 := Lib.hid (hy9.reads' (veil_reads _ _)); have HX10 := Lib.hid ((ty_kp HX9.out hk9 HLOW.out).reads' (veil_reads _ _))
              have hxb := (hk9.block _ (lt_of_block HB9.out) (pk_true (by have := HLOW.out; have := HLE7.out; omega))).trans HB9.out
              have H9 := Lib.hid ((HT8.out.k.trans (HT8.out.b.kpP hk9)).below_of H3.out (w0 := w) HPW.out)
              obtain ⟨⟨g0, g1, g2⟩, -, gl⟩ := c3 hxb
              have hee : (EE == EE) = true := by simp
              clear hB9 hk9 hy9 hxb HSW HX9 HB9
              go_wp2_with (fail)
              have hal := al_new (W := w9) (.cells #[.int .u8 y0, .int .i64 y1, .slice q9 l9 c9] 25)
              refine (refSame_walk _ _ _ ⟨x0, x1⟩ ⟨y0, y1⟩ q7 q9 l7 c7 l9 c9 _ (Nat.le_refl _) (HX10.out.below hal) (HY9.out.below hal)).mono ?_
              rintro e w12 ⟨rfl, hb12⟩
              rw [same_self]
              have H12 := Lib.hid (H9.out.trans ((hal.trans (hb12.mono (by simp))).mono H9.out.size))
              clear hal hb12 g0 g1 g2 gl
              go_wp2_with (fail)
              refine (HAW.out _ H12.out).mono ?_
              rintro e wa ⟨rfl, hba⟩
              have HA := Lib.hid (H12.out.trans (hba.mono H12.out.size))
              clear hba
              go_wp2_with (fail)
              go_ret
              exact ⟨rfl, HA.out⟩
end Types
end Go.Proofs.YtjchplgapaeagaaDoor
