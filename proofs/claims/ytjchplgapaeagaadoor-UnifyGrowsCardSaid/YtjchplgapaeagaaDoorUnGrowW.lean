/- The walk of layer 9's statement on rows of pairs. -/
import Derived.Test.YtjchplgapaeagaaDoorUnGrowM
import Derived.OrdersHeld
namespace Go.Proofs.YtjchplgapaeagaaDoor
open Go.RowKit
set_option linter.unusedVariables false
set_option linter.unusedSimpArgs false
namespace Types

def cV (v : Nat) : Array Value := #[.int .u8 5, .int .i64 (v : Int), .slice none 0 0]
/-- How it stands ahead of each step. -/
structure GrI (P : Nat → Bool) (k : Bk) (w : World) (bx by' i X Y : Nat) (W : World) : Prop where
  b : Book P k W (2 * i + 2) (SG i) (gSen i) (1000 * i)
  n : X = 2 * i ∧ Y = 2 * i + 1
  x : W.heap[bx]? = some (.cells #[.int .u8 5, .int .i64 (X : Int), .slice none 0 0] 25 (0, 0))
  y : W.heap[by']? = some (.cells #[.int .u8 5, .int .i64 (Y : Int), .slice none 0 0] 25 (0, 0))
  w : Below w.heap.size w W
  s : by' < W.heap.size
theorem GrI.drew {P : Nat → Bool} {k : Bk} {w W : World} {bx by2 i X Y : Nat} (h : GrI P k w bx by2 i X Y W) : GrI P k w bx by2 i X Y W.drew := ⟨h.b.below (Below.refl _ _).drew, h.n, h.x, h.y, h.w.drew, h.s⟩
set_option maxRecDepth 100000 in
set_option maxHeartbeats 12800000 in
theorem unifyGrows_walk (n : Int) (w : World) (hn : 0 ≤ n ∧ n ≤ 255) (hkl : KidsLaid w) :
    Calls Tryd.prog 6 #[.int .u8 n] w fun e w' => e = .returned (.bool true) ∧ Below w.heap.size w w' := by
  have haw := fun W (hb : Below w.heap.size w W) => awake_walk W (hkl.below hb)
  have HAW := Lib.hid haw
  have HR0 := Lib.hid (Below.refl w.heap.size w)
  by_cases h200 : n ≤ 200
  case neg =>
    clear hn hkl haw
    go_enter Tryd.func6, Tryd.ntmps6
    go_wp2_with (fail)
    refine (HAW.out _ HR0.out).mono ?_
    rintro e wa ⟨rfl, hba⟩
    have HA := Lib.hid (HR0.out.trans (hba.mono HR0.out.size))
    clear hba
    go_wp2_with (fail)
    go_ret
    exact ⟨rfl, HA.out⟩
  obtain ⟨N, rfl⟩ : ∃ N : Nat, n = (N : Int) := ⟨n.toNat, by omega⟩
  have hN : N ≤ 200 := by omega
  have HKL := Lib.hid hkl
  clear hn hkl haw h200
  go_enter Tryd.func6, Tryd.ntmps6
  go_wp2_with (fail)
  refine (bnew_walk (PB w.heap.size 3) w (pb_false (by omega)) (pb_false (by omega)) (pb_false (by omega))).mono ?_
  rintro e w3 ⟨rfl, hb3, hB3, hs3⟩
  obtain ⟨k, hk⟩ : ∃ k : Bk, k = ⟨w.heap.size + 2, w.heap.size, w.heap.size + 1⟩ := ⟨_, rfl⟩
  have hkb : w.heap.size + 2 = k.b := by rw [hk]
  rw [← hk] at hB3
  rw [hkb]
  have HB3 := Lib.hid hB3
  have HP0 := Lib.hid (show ∀ b, w3.heap.size ≤ b → PB w.heap.size 3 b = true from fun b hb => pb_true (by omega))
  have HPW := Lib.hid (show ∀ b, b < w.heap.size → PK k b = true from fun b hb => pk_true (by subst hk; exact ⟨by dsimp only; omega, by dsimp only; omega, by dsimp only; omega⟩))
  have H3 := Lib.hid hb3
  have HKE := Lib.hid (show k.b < w3.heap.size ∧ k.s < w3.heap.size ∧ k.i < w3.heap.size from by subst hk; exact ⟨by dsimp only; omega, by dsimp only; omega, by dsimp only; omega⟩)
  clear hk hkb hB3 hb3 hs3
  go_wp2_with (fail)
  refine (bfresh_walk w3 HB3.out (by omega)).mono ?_
  rintro e w4 ⟨rfl, hB4, hk4⟩
  have HB4 := Lib.hid hB4; have HK4 := Lib.hid hk4
  clear hB4 hk4
  go_wp2_with (fail)
  refine (bfresh_walk w4 HB4.out (by omega)).mono ?_
  rintro e w5 ⟨rfl, hB5, hk5⟩
  have hz45 : w3.heap.size ≤ w5.heap.size := Nat.le_trans HK4.out.size hk5.size
  obtain ⟨bx, hbx⟩ : ∃ bx, bx = w5.heap.size := ⟨_, rfl⟩
  obtain ⟨P, hP⟩ : ∃ P : Nat → Bool, P = fun b => PB w.heap.size 3 b && decide (b ≠ bx ∧ b ≠ bx + 1) := ⟨_, rfl⟩
  have hPK : ∀ b, b < bx → PB w.heap.size 3 b = true → P b = true := fun b hb hp => by subst hP; show (_ && _) = true; rw [hp, decide_eq_true (by omega)]; rfl
  have hlow := hB5.low
  have HP := Lib.hid (show (∀ b, bx + 2 ≤ b → P b = true) ∧ P bx = false ∧ P (bx + 1) = false from by
    subst hP
    refine ⟨fun b hb => ?_, ?_, ?_⟩
    · show (_ && _) = true
      rw [HP0.out b (by omega), decide_eq_true (by omega)]; rfl
    · show (_ && _) = false
      rw [decide_eq_false (by omega), Bool.and_false]
    · show (_ && _) = false
      rw [decide_eq_false (by omega), Bool.and_false])
  have hPF : P k.b = false ∧ P k.s = false ∧ P k.i = false := by subst hP; exact ⟨by show (_ && _) = false; rw [hlow.1]; rfl, by show (_ && _) = false; rw [hlow.2.1]; rfl, by show (_ && _) = false; rw [hlow.2.2.1]; rfl⟩
  have hB5' : Book P k w5 2 (fun _ => True) tyV 0 := hB5.reP (fun b hb hp => hPK b (by omega) hp) hPF
  have hBel5 : Below w.heap.size w w5 := (HK4.out.trans hk5).below_of H3.out (w0 := w) HPW.out
  have HB5 := Lib.hid hB5'; have H5 := Lib.hid hBel5; have HBX := Lib.hid hbx; have HZ := Lib.hid hz45
  clear hB5 hk5 hz45 hP hPK hlow hPF hB5' hBel5 HB4 HK4
  have hG0 : GrI P k w bx (bx + 1) 0 0 1 ((w5.alloc (.cells #[.int .u8 5, .int .i64 0, .slice none 0 0] 25)).alloc (.cells #[.int .u8 5, .int .i64 1, .slice none 0 0] 25)) := by
    have hb : Below w5.heap.size w5 ((w5.alloc (.cells #[.int .u8 5, .int .i64 0, .slice none 0 0] 25)).alloc (.cells #[.int .u8 5, .int .i64 1, .slice none 0 0] 25)) := (al_new _).alloc (by simp) _
    have hB := (HB5.out.below hb).sol sg_zero
    refine ⟨?_, ⟨rfl, rfl⟩, ?_, ?_, H5.out.trans (hb.mono H5.out.size), by rw [hbx]; simp⟩
    · have e := isSen_eq hB.isSen (gSen_is 0)
      rw [← e]; exact hB
    · rw [hbx]; exact at_more (at_new rfl)
    · rw [hbx]; exact at_new (by simp)
  have HG0 := Lib.hid hG0
  clear hG0
  rw [hbx] at HG0 HP
  clear HBX
  subst hbx
  go_wp2_with (fail)
  go_loopw [6, 7] (fun ok i0 wr => ∃ i X Y : Nat, i ≤ N ∧ ok = .bool true ∧ i0 = .int .i64 i ∧ Hid (GrI P k w w5.heap.size (w5.heap.size + 1) i X Y wr)) (fun _ i0 _ => N - (intOf i0).toNat)
  case atStart => exact ⟨0, 0, 1, Nat.zero_le _, rfl, rfl, HG0⟩
  case round =>
    obtain ⟨i, X, Y, hi, rfl, rfl, HG⟩ := hrel
    by_cases hlt : i < N
    · obtain ⟨U, hU⟩ : ∃ U, U = 2 * i + 2 := ⟨_, rfl⟩
      obtain ⟨V, hV⟩ : ∃ V, V = 2 * i + 3 := ⟨_, rfl⟩
      have HNN := Lib.hid (show X = 2 * i ∧ Y = 2 * i + 1 ∧ U = 2 * i + 2 ∧ V = 2 * i + 3 from ⟨HG.out.n.1, HG.out.n.2, hU, hV⟩)
      have hB0 : Book P k wr U (SG i) (gSen i) (1000 * i) := by rw [hU]; exact HG.out.b
      have hfw := bfresh_walk wr hB0 (by omega)
      have HFW := Lib.hid hfw
      clear hfw hB0 hU hV
      go_wp2_with (fail)
      refine HFW.out.mono ?_
      rintro e w6 ⟨rfl, hB6, hk6⟩
      have hB6 : Book P k w6 V (SG i) (gSen i) (1000 * i) := by rw [show V = U + 1 by have := HNN.out; omega]; exact hB6
      have HB6 := Lib.hid hB6; have HK6 := Lib.hid hk6
      have hfw := bfresh_walk w6 hB6 (by have := HNN.out; omega)
      have HFW2 := Lib.hid hfw
      clear hfw hB6 hk6 HFW
      go_wp2_with (fail)
      refine HFW2.out.mono ?_
      rintro e w7 ⟨rfl, hB7, hk7⟩
      have HB7 := Lib.hid hB7; have HK7 := Lib.hid (HK6.out.trans hk7)
      clear hB7 hk7 HFW2 HB6 HK6
      go_upto_region 10 with (fail)
      have hal : Below w7.heap.size w7 ((w7.alloc (.cells #[.int .u8 5, .int .i64 (U : Int), .slice none 0 0] 25)).alloc (.cells #[.int .u8 5, .int .i64 (V : Int), .slice none 0 0] 25)) := (al_new _).alloc (by simp) _
      obtain ⟨W8, hW8⟩ : ∃ W8, W8 = (w7.alloc (.cells #[.int .u8 5, .int .i64 (U : Int), .slice none 0 0] 25)).alloc (.cells #[.int .u8 5, .int .i64 (V : Int), .slice none 0 0] 25) := ⟨_, rfl⟩
      have hz8 : W8.heap.size = w7.heap.size + 2 := by rw [hW8]; simp
      have hu8 : W8.heap[w7.heap.size]? = some (.cells #[.int .u8 5, .int .i64 (U : Int), .slice none 0 0] 25 (0, 0)) := by rw [hW8]; exact at_more (at_new rfl)
      have hw8 : W8.heap[w7.heap.size + 1]? = some (.cells #[.int .u8 5, .int .i64 (V : Int), .slice none 0 0] 25 (0, 0)) := by rw [hW8]; exact at_new (by simp)
      rw [← hW8] at hal ⊢
      clear hW8
      have hsz : w5.heap.size + 2 ≤ w7.heap.size := by have := HG.out.s; have := HK7.out.size; omega
      have hpk : ∀ b, w5.heap.size ≤ b → PK k b = true := fun b hb => pk_true (by have := HKE.out; have := HZ.out; omega)
      have hx8 := (hal.block _ (by omega)).trans ((HK7.out.block _ (lt_of_block HG.out.x) (hpk _ (Nat.le_refl _))).trans HG.out.x)
      have hy8 := (hal.block _ (by omega)).trans ((HK7.out.block _ (lt_of_block HG.out.y) (hpk _ (by omega))).trans HG.out.y)
      have hb8 : Below w.heap.size w W8 := ((HK7.out).below_of HG.out.w (w0 := w) HPW.out).trans (hal.mono (Nat.le_trans HG.out.w.size HK7.out.size))
      have HSZ := Lib.hid hsz; have HPKB := Lib.hid hpk; have HXY8 := Lib.hid (And.intro hx8 hy8); have HUW8 := Lib.hid (And.intro hu8 hw8); have HB8w := Lib.hid hb8; have HZ8 := Lib.hid hz8
      have HB8 := Lib.hid (HB7.out.below hal)
      have hgf := gr_facts W8 P (fun b hb => HP.out.1 b (by omega)) X U (by have := HNN.out; omega) (by have := HNN.out; omega)
      obtain ⟨W9, hW9⟩ : ∃ W, grW W8 W8.heap.size (X : Int) (U : Int) = W := ⟨_, rfl⟩
      rw [hW9] at hgf
      unfold grW at hW9
      have HW9 := Lib.hid hW9
      obtain ⟨hb9, hz9, hk9⟩ := hgf
      have hjw := bjoin_walk [tyV U, tPair (tyV X) (tyV X)] _ 2 2 W9 (HB8.out.below hb9) (fun b hb => HP.out.1 b (by omega)) (hk9.reads' (veil_reads _ _)) hk9 rfl (HKL.out.below (hb8.trans (hb9.mono hb8.size))) (by rw [grow_nv]; have := HNN.out; omega)
      have HJW := Lib.hid hjw; have HB9 := Lib.hid hb9; have HZ9 := Lib.hid hz9
      clear hal hz8 hu8 hw8 hsz hpk hx8 hy8 hb8 hW9 hb9 hz9 hk9 hjw HB7
      obtain ⟨⟨g0, g1, g2⟩, -, gl⟩ := c3 HXY8.out.1
      obtain ⟨⟨f0, f1, f2⟩, -, fl⟩ := c3 HUW8.out.1
      go_wp2_with (fail)
      rw [HW9.out]
      refine HJW.out.mono ?_
      rintro e w10 ⟨hk10, ⟨-, -, hno⟩ | ⟨rfl, -, σ1, hB10⟩⟩
      · exfalso
        rcases hno with ⟨u, hu, hh⟩ | hno
        · rw [grow_has (n := V + 1) (by have := HNN.out; omega) (by have := HNN.out; omega) u hu] at hh; cases hh
        · exact hno gAll ⟨gAll_sg i, by rw [HNN.out.1, HNN.out.2.2.1]; exact gAll_even i⟩
      have hx10 := (hk10.block _ (by have := lt_of_block HXY8.out.1; have := HZ9.out; omega) (HPKB.out _ (Nat.le_refl _))).trans ((HB9.out.block _ (lt_of_block HXY8.out.1)).trans HXY8.out.1)
      have hy10 := (hk10.block _ (by have := lt_of_block HXY8.out.2; have := HZ9.out; omega) (HPKB.out _ (by omega))).trans ((HB9.out.block _ (lt_of_block HXY8.out.2)).trans HXY8.out.2)
      have hu10 := (hk10.block _ (by have := lt_of_block HUW8.out.1; have := HZ9.out; omega) (HPKB.out _ (by have := HSZ.out; omega))).trans ((HB9.out.block _ (lt_of_block HUW8.out.1)).trans HUW8.out.1)
      have hw10 := (hk10.block _ (by have := lt_of_block HUW8.out.2; have := HZ9.out; omega) (HPKB.out _ (by have := HSZ.out; omega))).trans ((HB9.out.block _ (lt_of_block HUW8.out.2)).trans HUW8.out.2)
      have hb10 : Below w.heap.size w w10 := hk10.below_of (HB8w.out.trans (HB9.out.mono HB8w.out.size)) (w0 := w) HPW.out
      have hgf := gr_facts w10 P (fun b hb => HP.out.1 b (by have := hk10.size; have := HZ9.out; have := HZ8.out; have := HSZ.out; omega)) Y V (by have := HNN.out; omega) (by have := HNN.out; omega)
      obtain ⟨W11, hW11⟩ : ∃ W, grW w10 w10.heap.size (Y : Int) (V : Int) = W := ⟨_, rfl⟩
      rw [hW11] at hgf
      unfold grW at hW11
      have HW11 := Lib.hid hW11
      obtain ⟨hb11, hz11, hk11⟩ := hgf
      have hjw := bjoin_walk [tyV V, tPair (tyV Y) (tyV Y)] _ 2 2 W11 (hB10.below hb11) (fun b hb => HP.out.1 b (by have := hk10.size; have := HZ9.out; have := HZ8.out; have := HSZ.out; omega)) (hk11.reads' (veil_reads _ _)) hk11 rfl (HKL.out.below (hb10.trans (hb11.mono hb10.size))) (by rw [grow_nv, grow_nv]; have := HNN.out; omega)
      have HJW2 := Lib.hid hjw; have HB11 := Lib.hid hb11; have HZ11 := Lib.hid hz11; have HXY10 := Lib.hid (And.intro hx10 hy10); have HUW10 := Lib.hid (And.intro hu10 hw10); have HB10w := Lib.hid hb10; have HZ10 := Lib.hid (show w7.heap.size ≤ w10.heap.size from by have := hk10.size; have := HZ9.out; have := HZ8.out; omega)
      clear hk10 hB10 hx10 hy10 hu10 hw10 hb10 hW11 hb11 hz11 hk11 hjw g0 g1 g2 gl f0 f1 f2 fl HJW HB8 HXY8 HUW8 HB8w
      obtain ⟨⟨g0, g1, g2⟩, -, gl⟩ := c3 HXY10.out.2
      obtain ⟨⟨f0, f1, f2⟩, -, fl⟩ := c3 HUW10.out.2
      go_wp2_with (fail)
      rw [HW11.out]
      refine HJW2.out.mono ?_
      rintro e w12 ⟨hk12, ⟨-, -, hno⟩ | ⟨rfl, -, σ2, hB12⟩⟩
      · exfalso
        rcases hno with ⟨u, hu, hh⟩ | hno
        · rw [grow_has (n := V + 1) (by have := HNN.out; omega) (by have := HNN.out; omega) u hu] at hh; cases hh
        · exact hno gAll ⟨⟨gAll_sg i, by rw [HNN.out.1, HNN.out.2.2.1]; exact gAll_even i⟩, by rw [HNN.out.2.1, HNN.out.2.2.2]; exact gAll_odd i⟩
      have hx12 := (hk12.block _ (by have := lt_of_block HXY10.out.1; have := HZ11.out; omega) (HPKB.out _ (Nat.le_refl _))).trans ((HB11.out.block _ (lt_of_block HXY10.out.1)).trans HXY10.out.1)
      have hy12 := (hk12.block _ (by have := lt_of_block HXY10.out.2; have := HZ11.out; omega) (HPKB.out _ (by omega))).trans ((HB11.out.block _ (lt_of_block HXY10.out.2)).trans HXY10.out.2)
      have hu12 := (hk12.block _ (by have := lt_of_block HUW10.out.1; have := HZ11.out; omega) (HPKB.out _ (by have := HSZ.out; omega))).trans ((HB11.out.block _ (lt_of_block HUW10.out.1)).trans HUW10.out.1)
      have hw12 := (hk12.block _ (by have := lt_of_block HUW10.out.2; have := HZ11.out; omega) (HPKB.out _ (by have := HSZ.out; omega))).trans ((HB11.out.block _ (lt_of_block HUW10.out.2)).trans HUW10.out.2)
      have HXY12 := Lib.hid (And.intro hx12 hy12); have HUW12 := Lib.hid (And.intro hu12 hw12)
      have HB12 := Lib.hid hB12
      have HB12w := Lib.hid (hk12.below_of (HB10w.out.trans (HB11.out.mono HB10w.out.size)) (w0 := w) HPW.out)
      clear hk12 hB12 hx12 hy12 hu12 hw12 g0 g1 g2 gl f0 f1 f2 fl HJW2 HXY10 HUW10 HB10w HB11
      go_upto_region 12 with (fail)
      refine wp_region_held_drew (S := fun V => V.heap[w7.heap.size]? = w12.heap[w7.heap.size]? ∧ V.heap[w7.heap.size + 1]? = w12.heap[w7.heap.size + 1]?) (by kernel_rfl) ⟨rfl, rfl⟩ (fun hHeld => ?_)
      refine wpAnyH_take (i := 0) (v := .agg #[.int .u8 5, .int .i64 (U : Int), .slice none 0 0]) rfl (by kernel_rfl) (by kernel_rfl) (by kernel_rfl) (fun _ _ _ h => h) (Or.inl ⟨by rfl, ?_⟩) (by assumption) ?_
      · intro w' hSw
        obtain ⟨⟨d0, d1, d2⟩, -, dl⟩ := c3 (hSw.1.trans HUW12.out.1)
        first | (go_simp; done) | (go_simp; intro h0; omega) | rfl
      try simp only [Act.put, List.getElem_toArray, List.getElem_cons_succ, List.getElem_cons_zero, List.setIfInBounds_toArray, List.set_cons_zero, List.set_cons_succ]
      refine wpAnyH_take (i := 1) (v := .agg #[.int .u8 5, .int .i64 (V : Int), .slice none 0 0]) rfl (by kernel_rfl) (by kernel_rfl) (by kernel_rfl) (fun _ _ _ h => h) (Or.inl ⟨by rfl, ?_⟩) (by assumption) ?_
      · intro w' hSw
        obtain ⟨⟨d0, d1, d2⟩, -, dl⟩ := c3 (hSw.2.trans HUW12.out.2)
        first | (go_simp; done) | (go_simp; intro h0; omega) | rfl
      try simp only [Act.put, List.getElem_toArray, List.getElem_cons_succ, List.getElem_cons_zero, List.setIfInBounds_toArray, List.set_cons_zero, List.set_cons_succ]
      refine wpAnyH_ready (rs := [2]) (by kernel_rfl) (by simp) ?_
      refine AllReadyH.cons rfl (fun K hK => ?_) AllReadyH.nil
      have HK2 := Lib.hid hK
      clear hK
      try rw [if_pos (by rfl)]
      obtain ⟨⟨g0, g1, g2⟩, ⟨gf0, gf1, gf2⟩, gl⟩ := c3 HXY12.out.1
      go_simp
      have hz := set3b (x := .int .u8 5) (y := .int .i64 (U : Int)) (z := .slice none 0 0) HXY12.out.1
      have hoth : ∀ b', b' ≠ w5.heap.size → (((w12.setCell ⟨w5.heap.size, 0, none⟩ (.int .u8 5)).setCell ⟨w5.heap.size, 1, none⟩ (.int .i64 (U : Int))).setCell ⟨w5.heap.size, 2, none⟩ (.slice none 0 0)).heap[b']? = w12.heap[b']? := fun b' e => (Below.heap_setCell _ _ _ _ e).trans ((Below.heap_setCell _ _ _ _ e).trans (Below.heap_setCell _ _ _ _ e))
      have hk13 : Kp (fun b => decide (b ≠ w5.heap.size)) w12 (((w12.setCell ⟨w5.heap.size, 0, none⟩ (.int .u8 5)).setCell ⟨w5.heap.size, 1, none⟩ (.int .i64 (U : Int))).setCell ⟨w5.heap.size, 2, none⟩ (.slice none 0 0)) := (((Kp.refl _ _).set (by simp) 0 _).set (by simp) 1 _).set (by simp) 2 _
      clear g0 g1 g2 gf0 gf1 gf2 gl
      generalize (((w12.setCell ⟨w5.heap.size, 0, none⟩ (.int .u8 5)).setCell ⟨w5.heap.size, 1, none⟩ (.int .i64 (U : Int))).setCell ⟨w5.heap.size, 2, none⟩ (.slice none 0 0)) = w13 at *
      have HZ13 := Lib.hid hz; have HO13 := Lib.hid hoth; have HK13 := Lib.hid hk13
      clear hz hoth hk13
      refine HK2.out _ _ ⟨HO13.out _ (by have := HSZ.out; omega), HO13.out _ (by have := HSZ.out; omega)⟩ (fun hHeld => ?_)
      clear HK2
      try simp only [Act.put, List.getElem_toArray, List.getElem_cons_succ, List.getElem_cons_zero, List.setIfInBounds_toArray, List.set_cons_zero, List.set_cons_succ]
      clear K
      refine wpAnyH_ready (rs := [3]) (by kernel_rfl) (by simp) ?_
      refine AllReadyH.cons rfl (fun K hK => ?_) AllReadyH.nil
      have HK2 := Lib.hid hK
      clear hK
      try rw [if_pos (by rfl)]
      obtain ⟨⟨g0, g1, g2⟩, ⟨gf0, gf1, gf2⟩, gl⟩ := c3 ((HO13.out _ (by omega)).trans HXY12.out.2)
      go_simp
      have hz := set3b (x := .int .u8 5) (y := .int .i64 (V : Int)) (z := .slice none 0 0) ((HO13.out _ (by omega)).trans HXY12.out.2)
      have hoth : ∀ b', b' ≠ w5.heap.size + 1 → (((w13.setCell ⟨w5.heap.size + 1, 0, none⟩ (.int .u8 5)).setCell ⟨w5.heap.size + 1, 1, none⟩ (.int .i64 (V : Int))).setCell ⟨w5.heap.size + 1, 2, none⟩ (.slice none 0 0)).heap[b']? = w13.heap[b']? := fun b' e => (Below.heap_setCell _ _ _ _ e).trans ((Below.heap_setCell _ _ _ _ e).trans (Below.heap_setCell _ _ _ _ e))
      have hk14 : Kp (fun b => decide (b ≠ w5.heap.size + 1)) w13 (((w13.setCell ⟨w5.heap.size + 1, 0, none⟩ (.int .u8 5)).setCell ⟨w5.heap.size + 1, 1, none⟩ (.int .i64 (V : Int))).setCell ⟨w5.heap.size + 1, 2, none⟩ (.slice none 0 0)) := (((Kp.refl _ _).set (by simp) 0 _).set (by simp) 1 _).set (by simp) 2 _
      clear g0 g1 g2 gf0 gf1 gf2 gl
      generalize (((w13.setCell ⟨w5.heap.size + 1, 0, none⟩ (.int .u8 5)).setCell ⟨w5.heap.size + 1, 1, none⟩ (.int .i64 (V : Int))).setCell ⟨w5.heap.size + 1, 2, none⟩ (.slice none 0 0)) = w14 at *
      have HZ14 := Lib.hid hz; have HO14 := Lib.hid hoth; have HK14 := Lib.hid hk14
      clear hz hoth hk14
      refine HK2.out _ _ ⟨(HO14.out _ (by have := HSZ.out; omega)).trans (HO13.out _ (by have := HSZ.out; omega)), (HO14.out _ (by have := HSZ.out; omega)).trans (HO13.out _ (by have := HSZ.out; omega))⟩ (fun hHeld => ?_)
      clear HK2
      try simp only [Act.put, List.getElem_toArray, List.getElem_cons_succ, List.getElem_cons_zero, List.setIfInBounds_toArray, List.set_cons_zero, List.set_cons_succ]
      clear K
      refine wpAnyH_done (by kernel_rfl) ?_ _
      clear hHeld
      have hkk : Kp (fun b => decide (b ≠ w5.heap.size ∧ b ≠ w5.heap.size + 1)) w12 w14 := (HK13.out.mono fun b hb => decide_eq_true (of_decide_eq_true hb).1).trans (HK14.out.mono fun b hb => decide_eq_true (of_decide_eq_true hb).2)
      have HG' := Lib.hid (show GrI P k w w5.heap.size (w5.heap.size + 1) (i + 1) U V w14 from by
        have hnn := HNN.out
        have hB12 := HB12.out
        rw [hnn.1, hnn.2.1, hnn.2.2.1, hnn.2.2.2] at hB12
        have hB := (hB12.keep hkk (fun b hb => decide_eq_true ⟨fun e => (by subst e; rw [HP.out.2.1] at hb; cases hb), fun e => (by subst e; rw [HP.out.2.2] at hb; cases hb)⟩) (decide_eq_true (by have := HKE.out; have := HZ.out; omega)) (decide_eq_true (by have := HKE.out; have := HZ.out; omega)) (decide_eq_true (by have := HKE.out; have := HZ.out; omega))).sol (sg_step i)
        have e := isSen_eq hB.isSen (gSen_is (i + 1))
        refine ⟨?_, ⟨by omega, by omega⟩, (HO14.out _ (by omega)).trans HZ13.out, HZ14.out, ?_, lt_of_block HZ14.out⟩
        · rw [← e]
          exact hB.most (by rw [grow_nv, grow_nv]; have := HNN.out; omega)
        · exact ⟨hkk.os.trans HB12w.out.os, hkk.tape.trans HB12w.out.tape, hkk.output.trans HB12w.out.output, Nat.le_trans HB12w.out.size hkk.size, fun b hb => (hkk.block b (Nat.lt_of_lt_of_le hb HB12w.out.size) (decide_eq_true (by have := H5.out.size; omega))).trans (HB12w.out.block b hb)⟩)
      clear hkk
      go_wp2_with (fail)
      go_roundw
      case rel => exact ⟨i + 1, U, V, by omega, rfl, by go_num, Lib.hid HG'.out.drew⟩
      case measure => simp [intOf]; omega
    · obtain rfl : N = i := by omega
      obtain ⟨wE, hwE⟩ : ∃ wE, wE = wr := ⟨_, rfl⟩
      subst hwE
      have HNN := Lib.hid HG.out.n
      have hsw := bsense_walk ⟨5, (X : Nat)⟩ none 0 0 (tyV X) 500 wE HG.out.b (tyV_is _ (by have := HNN.out; omega)) (tyV_is _ (by have := HNN.out; omega)) (HKL.out.below HG.out.w) (by omega) (by omega) (by rw [wt_tyV]; omega) (by omega)
      rw [HNN.out.1, grow_err N (2 * N + 2) rfl, ← HNN.out.1] at hsw
      obtain ⟨EE, hEE⟩ : ∃ E : Int, E = if 7 < N then (3 : Int) else 0 := ⟨_, rfl⟩
      rw [← hEE] at hsw
      have HEE := Lib.hid hEE
      clear hEE
      have HSW := Lib.hid hsw
      clear hsw
      obtain ⟨⟨g0, g1, g2⟩, -, gl⟩ := c3 HG.out.x
      go_wp2_with (fail)
      refine HSW.out.mono ?_
      rintro e w9 ⟨hB9, hk9, ⟨x0, x1⟩, q9, l9, c9, rfl, -⟩
      have hpk : ∀ b, w5.heap.size ≤ b → PK k b = true := fun b hb => pk_true (by have := HKE.out; have := HZ.out; omega)
      have hx9 := (hk9.block _ (lt_of_block HG.out.x) (hpk _ (Nat.le_refl _))).trans HG.out.x
      have hy9 := (hk9.block _ (lt_of_block HG.out.y) (hpk _ (by omega))).trans HG.out.y
      have hb9 : Below w.heap.size w w9 := hk9.below_of HG.out.w (w0 := w) HPW.out
      have hs9 : w5.heap.size + 2 ≤ w9.heap.size := by have := HG.out.s; have := hk9.size; omega
      have hal : Below w9.heap.size w9 ((w9.alloc (.cells #[.int .u8 x0, .int .i64 x1, .slice q9 l9 c9] 25)).alloc (.cells #[.int .u8 5, .int .i64 (X : Int), .slice none 0 0, .int .u8 5, .int .i64 (Y : Int), .slice none 0 0] 25)) := (al_new _).alloc (by simp) _
      obtain ⟨W10, hW10⟩ : ∃ W, ((w9.alloc (.cells #[.int .u8 x0, .int .i64 x1, .slice q9 l9 c9] 25)).alloc (.cells #[.int .u8 5, .int .i64 (X : Int), .slice none 0 0, .int .u8 5, .int .i64 (Y : Int), .slice none 0 0] 25)) = W := ⟨_, rfl⟩
      have hx10 : W10.heap[w9.heap.size + 1]? = some (.cells #[.int .u8 5, .int .i64 (X : Int), .slice none 0 0, .int .u8 5, .int .i64 (Y : Int), .slice none 0 0] 25 (0, 0)) := by rw [← hW10]; exact at_new (by simp)
      rw [hW10] at hal
      have hk10 : Kids (veil P W10) (some ⟨w9.heap.size + 1, 0, none⟩) [tyV X, tyV Y] := kids_blk hx10 (HP.out.1 _ (by omega)) (flat_two (tyV_is _ (by have := HNN.out; omega)) (tyV_is _ (by have := HNN.out; omega)))
      have hb10 := hb9.trans (hal.mono hb9.size)
      have hjw := bjoin_walk [tyV X, tyV Y] _ 2 2 W10 (hB9.below hal) (fun b hb => HP.out.1 b (by have := hal.size; omega)) (hk10.reads' (veil_reads _ _)) hk10 rfl (HKL.out.below hb10) (by rw [nvK_cons, nvK_cons, nvK_nil, nv_var, nv_var]; have := HNN.out; omega)
      have HJW := Lib.hid hjw; have HW10 := Lib.hid hW10; have HX9 := Lib.hid (And.intro hx9 hy9); have HB10 := Lib.hid hb10
      clear hB9 hk9 hpk hx9 hy9 hb9 hs9 hal hx10 hk10 hb10 hjw hW10 g0 g1 g2 gl HSW
      obtain ⟨⟨g0, g1, g2⟩, -, gl⟩ := c3 HX9.out.1
      obtain ⟨⟨f0, f1, f2⟩, -, fl⟩ := c3 HX9.out.2
      go_wp2_with (fail)
      rw [HW10.out]
      refine HJW.out.mono ?_
      rintro e w11 ⟨hk11, ⟨-, -, hno⟩ | ⟨rfl, -, σ3, hB11⟩⟩
      · exfalso
        rcases hno with ⟨u, hu, hh⟩ | hno
        · simp only [List.mem_cons, List.not_mem_nil, or_false] at hu
          rcases hu with rfl | rfl
          · rw [hasB_tyV (by have := HNN.out; omega)] at hh; cases hh
          · rw [hasB_tyV (by have := HNN.out; omega)] at hh; cases hh
        · exact hno _ (by rw [HNN.out.1, HNN.out.2]; exact (bSen_is N).is)
      rw [HNN.out.1, HNN.out.2] at hB11
      have e3 := isSen_eq hB11.isSen (bSen_is N)
      subst e3
      have H11 := Lib.hid (hk11.below_of HB10.out (w0 := w) HPW.out)
      have HB11 := Lib.hid hB11
      clear hk11 hB11 g0 g1 g2 gl f0 f1 f2 fl HJW HB10 HW10 HX9
      go_wp2_with (fail)
      refine (v_walk _ w11).mono ?_
      rintro e w12 ⟨rfl, hb12⟩
      have hb12' := H11.out.trans (hb12.mono H11.out.size)
      have hsw := bsense_walk ⟨5, (1 : Nat)⟩ none 0 0 (tyV 1) 1 w12 (HB11.out.below hb12) (tyV_is _ (by omega)) (tyV_is _ (by omega)) (HKL.out.below hb12') (by omega) (by rw [nvK_cons, nvK_cons, nvK_nil, nv_var, nv_var]; omega) (by rw [wt_tyV]; omega) (by omega)
      rw [(grow_out N (2 * N + 2) rfl).1, (grow_out N (2 * N + 2) rfl).2] at hsw
      have HSW := Lib.hid hsw; have H12 := Lib.hid hb12'
      clear hb12 hb12' hsw HB11
      go_wp2_with (fail)
      refine HSW.out.mono ?_
      rintro e w13 ⟨-, hk13, ⟨y0, y1⟩, q13, l13, c13, rfl, hy13⟩
      have H13 := Lib.hid (hk13.below_of H12.out (w0 := w) HPW.out)
      have HY13 := Lib.hid (hy13.reads' (veil_reads _ _))
      clear hk13 hy13 HSW
      rcases Nat.lt_or_ge 7 N with h7 | h7
      · have hEE := HEE.out
        rw [if_pos h7] at hEE
        subst hEE
        have hal := al_new (W := w13) (.cells #[.int .u8 y0, .int .i64 y1, .slice q13 l13 c13] 25)
        obtain ⟨W, hW⟩ : ∃ W, W = w13.alloc (.cells #[.int .u8 y0, .int .i64 y1, .slice q13 l13 c13] 25) := ⟨_, rfl⟩
        have hxb : W.heap[w13.heap.size]? = some (.cells #[.int .u8 y0, .int .i64 y1, .slice q13 l13 c13] 25 (0, 0)) := by rw [hW]; exact heap_alloc_new w13 _
        rw [← hW] at hal
        have HXB := Lib.hid hxb; have HY14 := Lib.hid (HY13.out.below hal); have H14 := Lib.hid (H13.out.trans (hal.mono H13.out.size))
        clear hxb hal
        go_upto_region 16 with (fail)
        rw [← hW]
        clear hW
        refine wp_region_held_drew (S := fun V => ∀ i, i < W.heap.size → V.heap[i]? = W.heap[i]?) (by kernel_rfl) (fun _ _ => rfl) (fun hHeld => ?_)
        refine wpAnyH_take (i := 0) (v := .bool true) rfl (by kernel_rfl) (by kernel_rfl) (by kernel_rfl) (fun _ _ _ h => h) (Or.inl ⟨by rfl, ?_⟩) (by assumption) ?_
        · intro w' hSw
          first | (go_simp; done) | (go_simp; intro h0; omega) | rfl
        try simp only [Act.put, List.getElem_toArray, List.getElem_cons_succ, List.getElem_cons_zero, List.setIfInBounds_toArray, List.set_cons_zero, List.set_cons_succ]
        refine wpAnyH_take (i := 1) (v := .bool true) rfl (by kernel_rfl) (by kernel_rfl) (by kernel_rfl) (fun _ _ _ h => h) (Or.inl ⟨by rfl, ?_⟩) (by assumption) ?_
        · intro w' hSw
          first | (go_simp; done) | (go_simp; intro h0; omega) | rfl
        try simp only [Act.put, List.getElem_toArray, List.getElem_cons_succ, List.getElem_cons_zero, List.setIfInBounds_toArray, List.set_cons_zero, List.set_cons_succ]
        refine wpAnyH_take (i := 2) (v := .int .i64 3) rfl (by kernel_rfl) (by kernel_rfl) (by kernel_rfl) (fun _ _ _ h => h) (Or.inl ⟨by rfl, ?_⟩) (by assumption) ?_
        · intro w' hSw
          first | (go_simp; done) | (go_simp; intro h0; omega) | rfl
        try simp only [Act.put, List.getElem_toArray, List.getElem_cons_succ, List.getElem_cons_zero, List.setIfInBounds_toArray, List.set_cons_zero, List.set_cons_succ]
        refine wpAnyH_take (i := 3) (v := .bool true) rfl (by kernel_rfl) (by kernel_rfl) (by kernel_rfl) (fun _ _ _ h => h) (Or.inl ⟨by rfl, ?_⟩) (by assumption) ?_
        · intro w' hSw
          first | (go_simp; done) | (go_simp; intro h0; omega) | rfl
        try simp only [Act.put, List.getElem_toArray, List.getElem_cons_succ, List.getElem_cons_zero, List.setIfInBounds_toArray, List.set_cons_zero, List.set_cons_succ]
        refine wpAnyH_take (i := 4) (v := .int .u8 (N : Int)) rfl (by kernel_rfl) (by kernel_rfl) (by kernel_rfl) (fun _ _ _ h => h) (Or.inl ⟨by rfl, ?_⟩) (by assumption) ?_
        · intro w' hSw
          first | (go_simp; done) | (go_simp; intro h0; omega) | rfl
        try simp only [Act.put, List.getElem_toArray, List.getElem_cons_succ, List.getElem_cons_zero, List.setIfInBounds_toArray, List.set_cons_zero, List.set_cons_succ]
        refine wpAnyH_take (i := 5) (v := .bool true) rfl (by kernel_rfl) (by kernel_rfl) (by kernel_rfl) (fun _ _ _ h => h) (Or.inl ⟨by rfl, ?_⟩) (by assumption) ?_
        · intro w' hSw
          have hd : decide ((7 : Int) < (N : Int)) = true := decide_eq_true (by omega)
          first | (go_simp; done) | (go_simp; intro h0; omega) | rfl
        try simp only [Act.put, List.getElem_toArray, List.getElem_cons_succ, List.getElem_cons_zero, List.setIfInBounds_toArray, List.set_cons_zero, List.set_cons_succ]
        refine wpAnyH_take (i := 6) (v := .bool true) rfl (by kernel_rfl) (by kernel_rfl) (by kernel_rfl) (fun _ _ _ h => h) (Or.inl ⟨by rfl, ?_⟩) (by assumption) ?_
        · intro w' hSw
          first | (go_simp; done) | (go_simp; intro h0; omega) | rfl
        try simp only [Act.put, List.getElem_toArray, List.getElem_cons_succ, List.getElem_cons_zero, List.setIfInBounds_toArray, List.set_cons_zero, List.set_cons_succ]
        refine wpAnyH_take (i := 7) (v := .bool true) rfl (by kernel_rfl) (by kernel_rfl) (by kernel_rfl) (fun _ _ _ h => h) (Or.inl ⟨by rfl, ?_⟩) (by assumption) ?_
        · intro w' hSw
          first | (go_simp; done) | (go_simp; intro h0; omega) | rfl
        try simp only [Act.put, List.getElem_toArray, List.getElem_cons_succ, List.getElem_cons_zero, List.setIfInBounds_toArray, List.set_cons_zero, List.set_cons_succ]
        refine wpAnyH_take (i := 8) (v := .bool true) rfl (by kernel_rfl) (by kernel_rfl) (by kernel_rfl) (fun _ _ _ h => h) (Or.inl ⟨by rfl, ?_⟩) (by assumption) ?_
        · intro w' hSw
          first | (go_simp; done) | (go_simp; intro h0; omega) | rfl
        try simp only [Act.put, List.getElem_toArray, List.getElem_cons_succ, List.getElem_cons_zero, List.setIfInBounds_toArray, List.set_cons_zero, List.set_cons_succ]
        refine wpAnyH_take (i := 9) (v := .int .i64 0) rfl (by kernel_rfl) (by kernel_rfl) (by kernel_rfl) (fun _ _ _ h => h) (Or.inl ⟨by rfl, ?_⟩) (by assumption) ?_
        · intro w' hSw
          first | (go_simp; done) | (go_simp; intro h0; omega) | rfl
        try simp only [Act.put, List.getElem_toArray, List.getElem_cons_succ, List.getElem_cons_zero, List.setIfInBounds_toArray, List.set_cons_zero, List.set_cons_succ]
        refine wpAnyH_take (i := 10) (v := .bool true) rfl (by kernel_rfl) (by kernel_rfl) (by kernel_rfl) (fun _ _ _ h => h) (Or.inl ⟨by rfl, ?_⟩) (by assumption) ?_
        · intro w' hSw
          first | (go_simp; done) | (go_simp; intro h0; omega) | rfl
        try simp only [Act.put, List.getElem_toArray, List.getElem_cons_succ, List.getElem_cons_zero, List.setIfInBounds_toArray, List.set_cons_zero, List.set_cons_succ]
        refine wpAnyH_take (i := 11) (v := .bool true) rfl (by kernel_rfl) (by kernel_rfl) (by kernel_rfl) (fun _ _ _ h => h) (Or.inl ⟨by rfl, ?_⟩) (by assumption) ?_
        · intro w' hSw
          first | (go_simp; done) | (go_simp; intro h0; omega) | rfl
        try simp only [Act.put, List.getElem_toArray, List.getElem_cons_succ, List.getElem_cons_zero, List.setIfInBounds_toArray, List.set_cons_zero, List.set_cons_succ]
        refine wpAnyH_take (i := 12) (v := .bool true) rfl (by kernel_rfl) (by kernel_rfl) (by kernel_rfl) (fun _ _ _ h => h) (Or.inl ⟨by rfl, ?_⟩) (by assumption) ?_
        · intro w' hSw
          first | (go_simp; done) | (go_simp; intro h0; omega) | rfl
        try simp only [Act.put, List.getElem_toArray, List.getElem_cons_succ, List.getElem_cons_zero, List.setIfInBounds_toArray, List.set_cons_zero, List.set_cons_succ]
        refine wpAnyH_take (i := 13) (v := .agg #[.int .u8 y0, .int .i64 y1, .slice q13 l13 c13]) rfl (by kernel_rfl) (by kernel_rfl) (by kernel_rfl) (fun _ _ _ h => h) (Or.inl ⟨by rfl, ?_⟩) (by assumption) ?_
        · intro w' hSw
          obtain ⟨⟨d0, d1, d2⟩, -, dl⟩ := c3 ((hSw _ (lt_of_block HXB.out)).trans HXB.out)
          first | (go_simp; done) | (go_simp; intro h0; omega) | rfl
        try simp only [Act.put, List.getElem_toArray, List.getElem_cons_succ, List.getElem_cons_zero, List.setIfInBounds_toArray, List.set_cons_zero, List.set_cons_succ]
        refine wpAnyH_ready (rs := [14]) (by kernel_rfl) (by simp) ?_
        refine AllReadyH.cons rfl (fun K hK => ?_) AllReadyH.nil
        have HK2 := Lib.hid hK
        clear hK
        try rw [if_pos (by rfl)]
        go_simp
        refine (v_walk _ _).mono ?_
        rintro e w15 ⟨rfl, hb15⟩
        have HB15 := Lib.hid (show Below W.heap.size W w15 from ⟨hb15.os, hb15.tape, hb15.output, hb15.size, hb15.block⟩)
        clear hb15
        refine HK2.out _ _ (fun i hi => HB15.out.block i hi) (fun hHeld => ?_)
        clear HK2
        try simp only [Act.put, List.getElem_toArray, List.getElem_cons_succ, List.getElem_cons_zero, List.setIfInBounds_toArray, List.set_cons_zero, List.set_cons_succ]
        clear K
        refine wpAnyH_ready (rs := [15]) (by kernel_rfl) (by simp) ?_
        refine AllReadyH.cons rfl (fun K hK => ?_) AllReadyH.nil
        have HK2 := Lib.hid hK
        clear hK
        try rw [if_pos (by rfl)]
        go_simp
        refine (refSame_walk _ _ _ ⟨y0, y1⟩ ⟨5, 0⟩ q13 none l13 c13 0 0 _ (Nat.le_refl _) (HY14.out.below HB15.out) (tyV_is _ (v := 0) (by omega))).mono ?_
        rintro e w16 ⟨rfl, hb16⟩
        rw [same_self]
        have HB16 := Lib.hid (HB15.out.trans (hb16.mono HB15.out.size))
        clear hb16
        refine HK2.out _ _ (fun i hi => HB16.out.block i hi) (fun hHeld => ?_)
        clear HK2
        try simp only [Act.put, List.getElem_toArray, List.getElem_cons_succ, List.getElem_cons_zero, List.setIfInBounds_toArray, List.set_cons_zero, List.set_cons_succ]
        clear K
        refine wpAnyH_take (i := 16) (v := .bool true) rfl (by kernel_rfl) (by kernel_rfl) (by kernel_rfl) (fun _ _ _ h => h) (Or.inl ⟨by rfl, ?_⟩) (by assumption) ?_
        · intro w' hSw
          first | (go_simp; done) | (go_simp; intro h0; omega) | rfl
        try simp only [Act.put, List.getElem_toArray, List.getElem_cons_succ, List.getElem_cons_zero, List.setIfInBounds_toArray, List.set_cons_zero, List.set_cons_succ]
        refine wpAnyH_take (i := 17) (v := .bool true) rfl (by kernel_rfl) (by kernel_rfl) (by kernel_rfl) (fun _ _ _ h => h) (Or.inl ⟨by rfl, ?_⟩) (by assumption) ?_
        · intro w' hSw
          first | (go_simp; done) | (go_simp; intro h0; omega) | rfl
        try simp only [Act.put, List.getElem_toArray, List.getElem_cons_succ, List.getElem_cons_zero, List.setIfInBounds_toArray, List.set_cons_zero, List.set_cons_succ]
        refine wpAnyH_ready (rs := [18]) (by kernel_rfl) (by simp) ?_
        refine AllReadyH.cons rfl (fun K hK => ?_) AllReadyH.nil
        have HK2 := Lib.hid hK
        clear hK
        try rw [if_pos (by rfl)]
        go_simp
        refine (HAW.out _ (H14.out.trans (HB16.out.mono H14.out.size))).mono ?_
        rintro e w17 ⟨rfl, hb17⟩
        have HB17 := Lib.hid (HB16.out.trans (hb17.mono HB16.out.size))
        clear hb17
        refine HK2.out _ _ (fun i hi => HB17.out.block i hi) (fun hHeld => ?_)
        clear HK2
        try simp only [Act.put, List.getElem_toArray, List.getElem_cons_succ, List.getElem_cons_zero, List.setIfInBounds_toArray, List.set_cons_zero, List.set_cons_succ]
        clear K
        refine wpAnyH_take (i := 19) (v := .bool true) rfl (by kernel_rfl) (by kernel_rfl) (by kernel_rfl) (fun _ _ _ h => h) (Or.inl ⟨by rfl, ?_⟩) (by assumption) ?_
        · intro w' hSw
          first | (go_simp; done) | (go_simp; intro h0; omega) | rfl
        try simp only [Act.put, List.getElem_toArray, List.getElem_cons_succ, List.getElem_cons_zero, List.setIfInBounds_toArray, List.set_cons_zero, List.set_cons_succ]
        refine wpAnyH_take (i := 20) (v := .bool true) rfl (by kernel_rfl) (by kernel_rfl) (by kernel_rfl) (fun _ _ _ h => h) (Or.inl ⟨by rfl, ?_⟩) (by assumption) ?_
        · intro w' hSw
          first | (go_simp; done) | (go_simp; intro h0; omega) | rfl
        try simp only [Act.put, List.getElem_toArray, List.getElem_cons_succ, List.getElem_cons_zero, List.setIfInBounds_toArray, List.set_cons_zero, List.set_cons_succ]
        refine wpAnyH_done (by kernel_rfl) ?_ _
        clear hHeld
        go_wp2_with (fail)
        go_ret
        exact ⟨rfl, H14.out.trans (HB17.out.mono H14.out.size)⟩
      · have hEE := HEE.out
        rw [if_neg (Nat.not_lt.2 h7)] at hEE
        subst hEE
        have hal := al_new (W := w13) (.cells #[.int .u8 y0, .int .i64 y1, .slice q13 l13 c13] 25)
        obtain ⟨W, hW⟩ : ∃ W, W = w13.alloc (.cells #[.int .u8 y0, .int .i64 y1, .slice q13 l13 c13] 25) := ⟨_, rfl⟩
        have hxb : W.heap[w13.heap.size]? = some (.cells #[.int .u8 y0, .int .i64 y1, .slice q13 l13 c13] 25 (0, 0)) := by rw [hW]; exact heap_alloc_new w13 _
        rw [← hW] at hal
        have HXB := Lib.hid hxb; have HY14 := Lib.hid (HY13.out.below hal); have H14 := Lib.hid (H13.out.trans (hal.mono H13.out.size))
        clear hxb hal
        go_upto_region 16 with (fail)
        rw [← hW]
        clear hW
        refine wp_region_held_drew (S := fun V => ∀ i, i < W.heap.size → V.heap[i]? = W.heap[i]?) (by kernel_rfl) (fun _ _ => rfl) (fun hHeld => ?_)
        refine wpAnyH_take (i := 0) (v := .bool true) rfl (by kernel_rfl) (by kernel_rfl) (by kernel_rfl) (fun _ _ _ h => h) (Or.inl ⟨by rfl, ?_⟩) (by assumption) ?_
        · intro w' hSw
          first | (go_simp; done) | (go_simp; intro h0; omega) | rfl
        try simp only [Act.put, List.getElem_toArray, List.getElem_cons_succ, List.getElem_cons_zero, List.setIfInBounds_toArray, List.set_cons_zero, List.set_cons_succ]
        refine wpAnyH_take (i := 1) (v := .bool true) rfl (by kernel_rfl) (by kernel_rfl) (by kernel_rfl) (fun _ _ _ h => h) (Or.inl ⟨by rfl, ?_⟩) (by assumption) ?_
        · intro w' hSw
          first | (go_simp; done) | (go_simp; intro h0; omega) | rfl
        try simp only [Act.put, List.getElem_toArray, List.getElem_cons_succ, List.getElem_cons_zero, List.setIfInBounds_toArray, List.set_cons_zero, List.set_cons_succ]
        refine wpAnyH_take (i := 2) (v := .int .i64 0) rfl (by kernel_rfl) (by kernel_rfl) (by kernel_rfl) (fun _ _ _ h => h) (Or.inl ⟨by rfl, ?_⟩) (by assumption) ?_
        · intro w' hSw
          first | (go_simp; done) | (go_simp; intro h0; omega) | rfl
        try simp only [Act.put, List.getElem_toArray, List.getElem_cons_succ, List.getElem_cons_zero, List.setIfInBounds_toArray, List.set_cons_zero, List.set_cons_succ]
        refine wpAnyH_take (i := 3) (v := .bool false) rfl (by kernel_rfl) (by kernel_rfl) (by kernel_rfl) (fun _ _ _ h => h) (Or.inl ⟨by rfl, ?_⟩) (by assumption) ?_
        · intro w' hSw
          first | (go_simp; done) | (go_simp; intro h0; omega) | rfl
        try simp only [Act.put, List.getElem_toArray, List.getElem_cons_succ, List.getElem_cons_zero, List.setIfInBounds_toArray, List.set_cons_zero, List.set_cons_succ]
        refine wpAnyH_take (i := 4) (v := .int .u8 (N : Int)) rfl (by kernel_rfl) (by kernel_rfl) (by kernel_rfl) (fun _ _ _ h => h) (Or.inl ⟨by rfl, ?_⟩) (by assumption) ?_
        · intro w' hSw
          first | (go_simp; done) | (go_simp; intro h0; omega) | rfl
        try simp only [Act.put, List.getElem_toArray, List.getElem_cons_succ, List.getElem_cons_zero, List.setIfInBounds_toArray, List.set_cons_zero, List.set_cons_succ]
        refine wpAnyH_take (i := 5) (v := .bool false) rfl (by kernel_rfl) (by kernel_rfl) (by kernel_rfl) (fun _ _ _ h => h) (Or.inl ⟨by rfl, ?_⟩) (by assumption) ?_
        · intro w' hSw
          have hd : decide ((7 : Int) < (N : Int)) = false := decide_eq_false (by omega)
          first | (go_simp; done) | (go_simp; intro h0; omega) | rfl
        try simp only [Act.put, List.getElem_toArray, List.getElem_cons_succ, List.getElem_cons_zero, List.setIfInBounds_toArray, List.set_cons_zero, List.set_cons_succ]
        refine wpAnyH_take (i := 6) (v := .bool true) rfl (by kernel_rfl) (by kernel_rfl) (by kernel_rfl) (fun _ _ _ h => h) (Or.inl ⟨by rfl, ?_⟩) (by assumption) ?_
        · intro w' hSw
          first | (go_simp; done) | (go_simp; intro h0; omega) | rfl
        try simp only [Act.put, List.getElem_toArray, List.getElem_cons_succ, List.getElem_cons_zero, List.setIfInBounds_toArray, List.set_cons_zero, List.set_cons_succ]
        refine wpAnyH_take (i := 7) (v := .bool true) rfl (by kernel_rfl) (by kernel_rfl) (by kernel_rfl) (fun _ _ _ h => h) (Or.inl ⟨by rfl, ?_⟩) (by assumption) ?_
        · intro w' hSw
          first | (go_simp; done) | (go_simp; intro h0; omega) | rfl
        try simp only [Act.put, List.getElem_toArray, List.getElem_cons_succ, List.getElem_cons_zero, List.setIfInBounds_toArray, List.set_cons_zero, List.set_cons_succ]
        refine wpAnyH_take (i := 8) (v := .bool true) rfl (by kernel_rfl) (by kernel_rfl) (by kernel_rfl) (fun _ _ _ h => h) (Or.inl ⟨by rfl, ?_⟩) (by assumption) ?_
        · intro w' hSw
          first | (go_simp; done) | (go_simp; intro h0; omega) | rfl
        try simp only [Act.put, List.getElem_toArray, List.getElem_cons_succ, List.getElem_cons_zero, List.setIfInBounds_toArray, List.set_cons_zero, List.set_cons_succ]
        refine wpAnyH_take (i := 9) (v := .int .i64 0) rfl (by kernel_rfl) (by kernel_rfl) (by kernel_rfl) (fun _ _ _ h => h) (Or.inl ⟨by rfl, ?_⟩) (by assumption) ?_
        · intro w' hSw
          first | (go_simp; done) | (go_simp; intro h0; omega) | rfl
        try simp only [Act.put, List.getElem_toArray, List.getElem_cons_succ, List.getElem_cons_zero, List.setIfInBounds_toArray, List.set_cons_zero, List.set_cons_succ]
        refine wpAnyH_take (i := 10) (v := .bool true) rfl (by kernel_rfl) (by kernel_rfl) (by kernel_rfl) (fun _ _ _ h => h) (Or.inl ⟨by rfl, ?_⟩) (by assumption) ?_
        · intro w' hSw
          first | (go_simp; done) | (go_simp; intro h0; omega) | rfl
        try simp only [Act.put, List.getElem_toArray, List.getElem_cons_succ, List.getElem_cons_zero, List.setIfInBounds_toArray, List.set_cons_zero, List.set_cons_succ]
        refine wpAnyH_take (i := 11) (v := .bool true) rfl (by kernel_rfl) (by kernel_rfl) (by kernel_rfl) (fun _ _ _ h => h) (Or.inl ⟨by rfl, ?_⟩) (by assumption) ?_
        · intro w' hSw
          first | (go_simp; done) | (go_simp; intro h0; omega) | rfl
        try simp only [Act.put, List.getElem_toArray, List.getElem_cons_succ, List.getElem_cons_zero, List.setIfInBounds_toArray, List.set_cons_zero, List.set_cons_succ]
        refine wpAnyH_take (i := 12) (v := .bool true) rfl (by kernel_rfl) (by kernel_rfl) (by kernel_rfl) (fun _ _ _ h => h) (Or.inl ⟨by rfl, ?_⟩) (by assumption) ?_
        · intro w' hSw
          first | (go_simp; done) | (go_simp; intro h0; omega) | rfl
        try simp only [Act.put, List.getElem_toArray, List.getElem_cons_succ, List.getElem_cons_zero, List.setIfInBounds_toArray, List.set_cons_zero, List.set_cons_succ]
        refine wpAnyH_take (i := 13) (v := .agg #[.int .u8 y0, .int .i64 y1, .slice q13 l13 c13]) rfl (by kernel_rfl) (by kernel_rfl) (by kernel_rfl) (fun _ _ _ h => h) (Or.inl ⟨by rfl, ?_⟩) (by assumption) ?_
        · intro w' hSw
          obtain ⟨⟨d0, d1, d2⟩, -, dl⟩ := c3 ((hSw _ (lt_of_block HXB.out)).trans HXB.out)
          first | (go_simp; done) | (go_simp; intro h0; omega) | rfl
        try simp only [Act.put, List.getElem_toArray, List.getElem_cons_succ, List.getElem_cons_zero, List.setIfInBounds_toArray, List.set_cons_zero, List.set_cons_succ]
        refine wpAnyH_ready (rs := [14]) (by kernel_rfl) (by simp) ?_
        refine AllReadyH.cons rfl (fun K hK => ?_) AllReadyH.nil
        have HK2 := Lib.hid hK
        clear hK
        try rw [if_pos (by rfl)]
        go_simp
        refine (v_walk _ _).mono ?_
        rintro e w15 ⟨rfl, hb15⟩
        have HB15 := Lib.hid (show Below W.heap.size W w15 from ⟨hb15.os, hb15.tape, hb15.output, hb15.size, hb15.block⟩)
        clear hb15
        refine HK2.out _ _ (fun i hi => HB15.out.block i hi) (fun hHeld => ?_)
        clear HK2
        try simp only [Act.put, List.getElem_toArray, List.getElem_cons_succ, List.getElem_cons_zero, List.setIfInBounds_toArray, List.set_cons_zero, List.set_cons_succ]
        clear K
        refine wpAnyH_ready (rs := [15]) (by kernel_rfl) (by simp) ?_
        refine AllReadyH.cons rfl (fun K hK => ?_) AllReadyH.nil
        have HK2 := Lib.hid hK
        clear hK
        try rw [if_pos (by rfl)]
        go_simp
        refine (refSame_walk _ _ _ ⟨y0, y1⟩ ⟨5, 0⟩ q13 none l13 c13 0 0 _ (Nat.le_refl _) (HY14.out.below HB15.out) (tyV_is _ (v := 0) (by omega))).mono ?_
        rintro e w16 ⟨rfl, hb16⟩
        rw [same_self]
        have HB16 := Lib.hid (HB15.out.trans (hb16.mono HB15.out.size))
        clear hb16
        refine HK2.out _ _ (fun i hi => HB16.out.block i hi) (fun hHeld => ?_)
        clear HK2
        try simp only [Act.put, List.getElem_toArray, List.getElem_cons_succ, List.getElem_cons_zero, List.setIfInBounds_toArray, List.set_cons_zero, List.set_cons_succ]
        clear K
        refine wpAnyH_take (i := 16) (v := .bool true) rfl (by kernel_rfl) (by kernel_rfl) (by kernel_rfl) (fun _ _ _ h => h) (Or.inl ⟨by rfl, ?_⟩) (by assumption) ?_
        · intro w' hSw
          first | (go_simp; done) | (go_simp; intro h0; omega) | rfl
        try simp only [Act.put, List.getElem_toArray, List.getElem_cons_succ, List.getElem_cons_zero, List.setIfInBounds_toArray, List.set_cons_zero, List.set_cons_succ]
        refine wpAnyH_take (i := 17) (v := .bool true) rfl (by kernel_rfl) (by kernel_rfl) (by kernel_rfl) (fun _ _ _ h => h) (Or.inl ⟨by rfl, ?_⟩) (by assumption) ?_
        · intro w' hSw
          first | (go_simp; done) | (go_simp; intro h0; omega) | rfl
        try simp only [Act.put, List.getElem_toArray, List.getElem_cons_succ, List.getElem_cons_zero, List.setIfInBounds_toArray, List.set_cons_zero, List.set_cons_succ]
        refine wpAnyH_ready (rs := [18]) (by kernel_rfl) (by simp) ?_
        refine AllReadyH.cons rfl (fun K hK => ?_) AllReadyH.nil
        have HK2 := Lib.hid hK
        clear hK
        try rw [if_pos (by rfl)]
        go_simp
        refine (HAW.out _ (H14.out.trans (HB16.out.mono H14.out.size))).mono ?_
        rintro e w17 ⟨rfl, hb17⟩
        have HB17 := Lib.hid (HB16.out.trans (hb17.mono HB16.out.size))
        clear hb17
        refine HK2.out _ _ (fun i hi => HB17.out.block i hi) (fun hHeld => ?_)
        clear HK2
        try simp only [Act.put, List.getElem_toArray, List.getElem_cons_succ, List.getElem_cons_zero, List.setIfInBounds_toArray, List.set_cons_zero, List.set_cons_succ]
        clear K
        refine wpAnyH_take (i := 19) (v := .bool true) rfl (by kernel_rfl) (by kernel_rfl) (by kernel_rfl) (fun _ _ _ h => h) (Or.inl ⟨by rfl, ?_⟩) (by assumption) ?_
        · intro w' hSw
          first | (go_simp; done) | (go_simp; intro h0; omega) | rfl
        try simp only [Act.put, List.getElem_toArray, List.getElem_cons_succ, List.getElem_cons_zero, List.setIfInBounds_toArray, List.set_cons_zero, List.set_cons_succ]
        refine wpAnyH_take (i := 20) (v := .bool true) rfl (by kernel_rfl) (by kernel_rfl) (by kernel_rfl) (fun _ _ _ h => h) (Or.inl ⟨by rfl, ?_⟩) (by assumption) ?_
        · intro w' hSw
          first | (go_simp; done) | (go_simp; intro h0; omega) | rfl
        try simp only [Act.put, List.getElem_toArray, List.getElem_cons_succ, List.getElem_cons_zero, List.setIfInBounds_toArray, List.set_cons_zero, List.set_cons_succ]
        refine wpAnyH_done (by kernel_rfl) ?_ _
        clear hHeld
        go_wp2_with (fail)
        go_ret
        exact ⟨rfl, H14.out.trans (HB17.out.mono H14.out.size)⟩
end Types
end Go.Proofs.YtjchplgapaeagaaDoor
