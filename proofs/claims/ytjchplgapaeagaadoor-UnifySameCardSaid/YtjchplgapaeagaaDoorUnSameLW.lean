/- The walk of layer 9's statement on what was made the same. -/
import Derived.Test.YtjchplgapaeagaaDoorUnRows
namespace Go.Proofs.YtjchplgapaeagaaDoor
open Go.RowKit
set_option linter.unusedVariables false
set_option linter.unusedSimpArgs false
namespace Types

/-- The senses of so many variables, as they are told. -/
def senL (N : Nat) (σ : Nat → Ty) (j : Nat) : List Ty := (List.range j).map fun v => outT N σ (tyV v) 2000
theorem senL_succ (N : Nat) (σ : Nat → Ty) (j : Nat) : senL N σ (j + 1) = senL N σ j ++ [outT N σ (tyV j) 2000] := by unfold senL; rw [List.range_succ, List.map_append]; rfl
theorem senL_len (N : Nat) (σ : Nat → Ty) (j : Nat) : (senL N σ j).length = j := by unfold senL; simp
theorem senL_get (N : Nat) (σ : Nat → Ty) {j v : Nat} (h : v < j) : tget (senL N σ j) v = outT N σ (tyV v) 2000 := by
  unfold tget senL
  rw [List.getD_eq_getElem?_getD, List.getElem?_map, List.getElem?_range h]
  rfl
/-- What lies behind a row's blocks is seen beside it. -/
theorem ty_seen2 {P : Nat → Bool} {W : World} {B M n : Nat} {v : Value} {xs : List Value} (hlt : ∀ b, v.ownBlock = some b → b < M) (hP : ∀ b, M ≤ b → P b = true) {hd : Hd} {q : Option Addr} {l c : Nat} {t : Ty} (hT : TyIs (veil (from_ M) W) hd q l c t) : TyIs (veil (seen P v) W) hd q l c t :=
  hT.reads' (veil_to fun b hb hp => by
    have h1 : M ≤ b := of_decide_eq_true hp
    exact ⟨seen_of (hP b h1) fun e => by have := hlt b e; omega, rfl⟩)
theorem out_same {N : Nat} {σ : Nat → Ty} {a b : Ty} (ha : hasB N a = true) (hb : hasB N b = true) (h : inst σ a = inst σ b) (most : Int) : outE N σ a most = outE N σ b most ∧ outT N σ a most = outT N σ b most := by
  unfold outE outT
  rw [ha, hb, h]
  exact ⟨rfl, rfl⟩
set_option maxRecDepth 100000 in
set_option maxHeartbeats 12800000 in
theorem unifySame_walk (n : Int) (p : Option Addr) (l d : Nat) (rows : List (List Ty)) (w : World) (hn : 0 ≤ n ∧ n ≤ 255) (hl : rows.length = l) (hm : l ≤ maxLen) (hR : RowsAt w p rows) (hkl : KidsLaid w) :
    Calls Tryd.prog 4 #[.int .u8 n, .slice p l d] w fun e w' => e = .returned (.bool true) ∧ Below w.heap.size w w' := by
  have haw := fun W (hb : Below w.heap.size w W) => awake_walk W (hkl.below hb)
  have HAW := Lib.hid haw
  have HR0 := Lib.hid (Below.refl w.heap.size w)
  by_cases h20 : n ≤ 20
  case neg =>
    clear hn hl hm hR hkl haw
    go_enter Tryd.func4, Tryd.ntmps4
    go_wp2_with (fail)
    refine (HAW.out _ HR0.out).mono ?_
    rintro e wa ⟨rfl, hba⟩
    have HA := Lib.hid (HR0.out.trans (hba.mono HR0.out.size))
    clear hba
    go_wp2_with (fail)
    go_ret
    exact ⟨rfl, HA.out⟩
  by_cases hl10 : l ≤ 10
  case neg =>
    clear hl hR hkl haw
    unfold maxLen at hm
    go_enter Tryd.func4, Tryd.ntmps4
    go_wp2_with (fail)
    refine (HAW.out _ HR0.out).mono ?_
    rintro e wa ⟨rfl, hba⟩
    have HA := Lib.hid (HR0.out.trans (hba.mono HR0.out.size))
    clear hba
    go_wp2_with (fail)
    go_ret
    exact ⟨rfl, HA.out⟩
  obtain ⟨N, rfl⟩ : ∃ N : Nat, n = (N : Int) := ⟨n.toNat, by omega⟩
  have hN : N ≤ 20 := by omega
  have HL := Lib.hid hl; have HRW := Lib.hid hR; have HKL := Lib.hid hkl
  clear hn hl hm hR hkl haw h20
  go_enter Tryd.func4, Tryd.ntmps4
  go_wp2_with (fail)
  refine (bnew_walk (PB w.heap.size 3) w (pb_false (by omega)) (pb_false (by omega)) (pb_false (by omega))).mono ?_
  rintro e w3 ⟨rfl, hb3, hB3, hs3⟩
  obtain ⟨k, hk⟩ : ∃ k : Bk, k = ⟨w.heap.size + 2, w.heap.size, w.heap.size + 1⟩ := ⟨_, rfl⟩
  have hkb : w.heap.size + 2 = k.b := by rw [hk]
  rw [← hk] at hB3
  rw [hkb]
  obtain ⟨P, hP⟩ : ∃ P, P = PB w.heap.size 3 := ⟨_, rfl⟩
  rw [← hP] at hB3
  have HT3 := Lib.hid (show Solo P k w3 0 (fun _ => True) tyV 0 w3 from ⟨hB3, Kp.refl _ _⟩)
  have HP := Lib.hid (show ∀ b, w3.heap.size ≤ b → P b = true from by
    subst hP
    exact fun b hb => pb_true (by omega))
  have HPW := Lib.hid (show ∀ b, b < w.heap.size → P b = true from by
    subst hP
    exact fun b hb => pb_true (by omega))
  have HKE := Lib.hid (show k.b < w3.heap.size ∧ k.s < w3.heap.size ∧ k.i < w3.heap.size from by subst hk; exact ⟨by dsimp only; omega, by dsimp only; omega, by dsimp only; omega⟩)
  have H3 := Lib.hid hb3
  have HRP := Lib.hid (show RowsAt (veil P w3) p rows from HRW.out.reads (veil_from fun b hb => ⟨HPW.out b hb, hb3.block b hb⟩))
  clear hk hkb hB3 hb3 hs3 hP
  go_wp2_with (fail)
  go_loopw [6] (fun i wr => ∃ j : Nat, j ≤ N ∧ i = .int .i64 j ∧ Hid (Solo P k w3 j (fun _ => True) tyV 0 wr)) (fun i _ => N - (intOf i).toNat)
  case atStart => exact ⟨0, Nat.zero_le _, rfl, HT3⟩
  case round =>
    obtain ⟨j, hj, rfl, HT⟩ := hrel
    by_cases hlt : j < N
    · have hfw := bfresh_walk wr HT.out.b (by omega)
      have HFW := Lib.hid hfw
      clear hfw
      go_wp2_with (fail)
      refine HFW.out.mono ?_
      rintro e w4 ⟨rfl, hB4, hk4⟩
      have HT4 := Lib.hid (show Solo P k w3 (j + 1) (fun _ => True) tyV 0 w4 from ⟨hB4, HT.out.k.trans (HT.out.b.kpP hk4)⟩)
      clear hB4 hk4 HFW
      go_wp2_with (fail)
      go_roundw
      case rel => exact ⟨j + 1, by omega, by go_num, HT4⟩
      case measure => simp [intOf]; omega
    · obtain rfl : N = j := by omega
      obtain ⟨w4, hw4⟩ : ∃ w4, w4 = wr := ⟨_, rfl⟩
      subst hw4
      have HT4 := HT
      clear HT3 HT
      obtain ⟨i0, hi, hz0, hz1, hz2⟩ := info_parts infoType
      have HI := Lib.hid hi; have HZ0 := Lib.hid hz0; have HZ1 := Lib.hid hz1; have HZ2 := Lib.hid hz2
      clear hi hz0 hz1 hz2
      go_wp2_with (fail)
      go_loopw [7] (fun i wr => ∃ (j m : Nat) (S : (Nat → Ty) → Prop) (σ : Nat → Ty), j ≤ l ∧ i = .int .i64 j ∧ Hid (Solo P k w3 N S σ m wr) ∧ Hid (m ≤ 1000 * j)) (fun i _ => l - (intOf i).toNat)
      case atStart => exact ⟨0, 0, _, _, Nat.zero_le _, rfl, HT4, Lib.hid (Nat.le_refl _)⟩
      case round =>
        obtain ⟨j, m, S, σ, hj, rfl, HT, HM⟩ := hrel
        have HBW := Lib.hid (HT.out.k.below_of H3.out (w0 := w) HPW.out)
        by_cases hlt : j < l
        · obtain ⟨w5, hw5⟩ : ∃ w5, w5 = wr := ⟨_, rfl⟩
          subst hw5
          obtain ⟨b, o, q, lr, cr, rfl, hcell, hrl, hrc, hrm, hrk⟩ := HRP.out j (by rw [HL.out]; exact hlt)
          have HROW := Lib.hid (show ∀ W, Kp P w3 W → W.cell? ⟨b, o + j, none⟩ = some (.slice q lr cr) ∧ Kids (veil P W) q (rget rows j) from fun W hk => ⟨(veil_seen (hk.reads _ _ hcell)).2, hk.kids hrk⟩)
          have HRL := Lib.hid (And.intro hrl (Nat.le_trans hrc hrm))
          clear hcell hrl hrc hrm hrk
          generalize rget rows j = ts at *
          obtain ⟨hc, hk5⟩ := HROW.out w5 HT.out.k
          have hgw := lgreat_walk ts q lr cr w5 HRL.out.1 HRL.out.2 (hk5.reads' (veil_reads _ _))
          have HGW := Lib.hid hgw
          clear hgw hk5
          go_wp2_with (fail)
          refine HGW.out.mono ?_
          rintro e w6 ⟨bb, rfl, hf, hb6⟩
          have HT6 := Lib.hid (HT.out.below hb6)
          have H6 := Lib.hid (HBW.out.trans (hb6.mono HBW.out.size))
          clear hb6 HGW hc
          cases bb with
          | true =>
            clear hf
            go_wp2_with (fail)
            refine (HAW.out _ H6.out).mono ?_
            rintro e wa ⟨rfl, hba⟩
            have HA := Lib.hid (H6.out.trans (hba.mono H6.out.size))
            clear hba
            go_wp2_with (fail)
            go_ret
            exact ⟨rfl, HA.out⟩
          | false =>
            have HF := Lib.hid (hf rfl)
            clear hf HT HBW HT4
            have hlr : lr ≤ 10 := by rw [← HRL.out.1]; exact HF.out.1
            have HLOW := Lib.hid HT6.out.b.low.2.2.2
            have HG := Lib.hid (heap_alloc_new w6 (.cells #[] 25))
            have hlow := HT6.out.b.low
            have HPF := Lib.hid (show P k.b = false ∧ P k.s = false ∧ P k.i = false from ⟨hlow.1, hlow.2.1, hlow.2.2.1⟩)
            have HPK := Lib.hid (show ∀ b, P b = true → PK k b = true from fun b hb => pk_true ⟨fun e => (by subst e; rw [hlow.1] at hb; cases hb), fun e => (by subst e; rw [hlow.2.1] at hb; cases hb), fun e => (by subst e; rw [hlow.2.2.1] at hb; cases hb)⟩)
            obtain ⟨Q, hQ⟩ : ∃ Q, Q = P0 P w6.heap.size := ⟨_, rfl⟩
            have HQ := Lib.hid hQ
            have HB7 := Lib.hid (show Book Q k (w6.alloc (.cells #[] 25)) N S σ m ∧ Kp P w3 (w6.alloc (.cells #[] 25)) from ⟨by rw [hQ]; exact HT6.out.b.p0.below (al_new _), HT6.out.k.alloc _⟩)
            have HW36 := Lib.hid HT6.out.k.size
            clear hlow hQ
            have hmm : m ≤ 10000 := by have := HM.out; omega
            go_wp2_with (fail)
            go_loopw [8, 9] (fun was i wr => ∃ (j2 c2 : Nat) (a2 : Option Addr), j2 ≤ N ∧ was = .slice a2 j2 c2 ∧ i = .int .i64 j2 ∧ Hid (RowL P w6.heap.size (.slice a2 j2 c2) (senL N σ j2) wr) ∧ Hid (Book Q k wr N S σ m ∧ Kp P w3 wr) ∧ Hid (w6.heap.size ≤ wr.heap.size)) (fun _ i _ => N - (intOf i).toNat)
            case atStart => exact ⟨0, 0, _, Nat.zero_le _, rfl, rfl, Lib.hid (RowL.empty (Nat.le_refl _) HG.out), HB7, Lib.hid (by simp)⟩
            case round =>
              obtain ⟨j2, c2, a2, hj2, rfl, rfl, HR, HT, HSZ⟩ := hrel
              by_cases hlt2 : j2 < N
              · go_wp2_with (fail)
                refine (v_walk _ wr).mono ?_
                rintro e w8 ⟨rfl, hb8⟩
                have hT8 : Book Q k w8 N S σ m ∧ Kp P w3 w8 := ⟨HT.out.1.below hb8, HT.out.2.trans (Kp.of_below hb8)⟩
                have hbw8 := hT8.2.below_of H3.out (w0 := w) HPW.out
                have hsw := bsense_walk ⟨5, (j2 : Nat)⟩ none 0 0 (tyV j2) 2000 w8 hT8.1 (tyV_is _ (by omega)) (tyV_is _ (by omega)) (HKL.out.below hbw8) (by omega) (by omega) (by rw [wt_tyV]; omega) (by omega)
                have HSW := Lib.hid hsw; have HT8 := Lib.hid hT8; have HR8 := Lib.hid (HR.out.below hb8); have HZ8 := Lib.hid hb8.size
                have hown : ∀ g, (Value.slice a2 j2 c2).ownBlock = some g → g < w8.heap.size ∧ w6.heap.size ≤ g := fun g hg => by
                  obtain ⟨xs, h1, _⟩ := HR.out
                  have := own_row_lt h1 hg
                  exact ⟨Nat.lt_of_lt_of_le this.1 hb8.size, this.2⟩
                have HOWN := Lib.hid hown
                clear hb8 hT8 hsw hbw8 hown
                go_wp2_with (fail)
                refine HSW.out.mono ?_
                rintro e w9 ⟨hB9, hk9, ⟨x0, x1⟩, q9, l9, c9, rfl, hx9⟩
                have hT9 : Book Q k w9 N S σ m ∧ Kp P w3 w9 := ⟨hB9, HT8.out.2.trans (hk9.mono HPK.out)⟩
                have hR9 := HR8.out.kp hk9 HPK.out (fun g hg => pk_true (by have := (HOWN.out g hg).2; have := HLOW.out; omega))
                have hnext : ∀ O O', ∃ xs, ((w9.alloc O).alloc O').ownsRow w6.heap.size 25 3 (.slice a2 j2 c2) j2 xs ∧ ∀ v' w3', w3'.ownsRow w6.heap.size 25 3 v' (j2 + 1) (xs ++ tcells ⟨x0, x1⟩ q9 l9 c9) → World.grownBy ((w9.alloc O).alloc O') w3' (Value.slice a2 j2 c2).ownBlock → (v'.ownBlock = (Value.slice a2 j2 c2).ownBlock ∨ v'.ownBlock = some ((w9.alloc O).alloc O').heap.size) → RowL P w6.heap.size v' (senL N σ (j2 + 1)) w3' ∧ Book Q k w3' N S σ m ∧ Kp P w3 w3' := fun O O' => by
                  have hb : Below w9.heap.size w9 ((w9.alloc O).alloc O') := (al_new O).alloc (by simp) O'
                  obtain ⟨xs, h1, h2⟩ := hR9.below hb
                  rw [senL_len] at h1
                  refine ⟨xs, h1, fun v' w3' ho3 hgr hat => ⟨?_, ?_⟩⟩
                  · rw [senL_succ]
                    exact RowL.step (by rw [senL_len]; exact h1) h2 (ty_seen2 (M := w8.heap.size) (B := 0) (n := 0) (xs := []) (fun g hg => (HOWN.out g hg).1) (fun b hb => HP.out b (Nat.le_trans (Nat.le_trans HT.out.2.size HZ8.out) hb)) (ty_bel hx9 hb)) (by rw [senL_len]; exact ho3) hgr hat
                  · have hko : Kp (fun b => decide ((Value.slice a2 j2 c2).ownBlock ≠ some b)) ((w9.alloc O).alloc O') w3' := ⟨hgr.os, hgr.tape, hgr.output, hgr.size, fun b hlt hp => hgr.block b hlt fun e => of_decide_eq_true hp e.symm⟩
                    have hL := HLOW.out
                    have h36 := HW36.out
                    have hk10 := hT9.2.trans (Kp.of_below (P := P) hb)
                    refine ⟨(hT9.1.below hb).keep hko (fun b hQb => decide_eq_true fun e => ?_) (decide_eq_true fun e => ?_) (decide_eq_true fun e => ?_) (decide_eq_true fun e => ?_), ⟨hgr.os.trans hk10.os, hgr.tape.trans hk10.tape, hgr.output.trans hk10.output, Nat.le_trans hk10.size hgr.size, fun b hlt hp => (hgr.block b (Nat.lt_of_lt_of_le hlt hk10.size) fun e => by have := (HOWN.out b e.symm).2; omega).trans (hk10.block b hlt hp)⟩⟩
                    · rw [HQ.out] at hQb; have := (p0_iff.1 hQb).2; have := (HOWN.out b e).2; omega
                    · have := (HOWN.out _ e).2; omega
                    · have := (HOWN.out _ e).2; omega
                    · have := (HOWN.out _ e).2; omega
                have HNX := Lib.hid hnext; have HZ9 := Lib.hid (Nat.le_trans (Nat.le_trans HSZ.out HZ8.out) hk9.size)
                have hj20 : j2 ≤ 20 := by omega
                have hz9 := HZ9.out
                clear hB9 hk9 hx9 hT9 hR9 hnext HSW HR8 HT8 HOWN
                generalize outE N σ (tyV j2) 2000 = EE at *
                go_wp2_with (at_builtin; obtain ⟨xs, hown, hnx⟩ := HNX.out (.cells #[.int .u8 x0, .int .i64 x1, .slice q9 l9 c9] 25) (.cells #[.int .u8 x0, .int .i64 x1, .slice q9 l9 c9] 25); refine wpList_append_own_at _ rfl (.tmp 64) (.tmp 66) 23 rfl w6.heap.size 25 i0 _ 3 40 Tryd.underlying23 HI.out HZ0.out HZ1.out HZ2.out rfl (by decide) (.slice a2 j2 c2) j2 xs rfl hown ⟨w9.heap.size + 1, 0, none⟩ 1 1 (tcells ⟨x0, x1⟩ q9 l9 c9) rfl rfl (new_cells' (by simp)) (cells_one' _ _ _ _) (by unfold maxLen; omega) (by omega) (by simp; omega) ?_; intro v' w5' hown5 hgrow5 _ hat5; obtain ⟨hr5, hb5⟩ := hnx v' w5' hown5 hgrow5 hat5; obtain ⟨a5, c5, rfl, -, -⟩ := own_slice hown5; have HR5 := Lib.hid hr5; have HB5 := Lib.hid hb5; have HZ5 := Lib.hid (Nat.le_trans (by simp; omega) hgrow5.size : w6.heap.size ≤ w5'.heap.size); clear hown5 hgrow5 hat5 hr5 hb5 hown hnx)
                go_roundw
                case rel => exact ⟨j2 + 1, c5, a5, by omega, rfl, by go_num, HR5, HB5, HZ5⟩
                case measure => simp [intOf]; omega
              · obtain rfl : N = j2 := by omega
                obtain ⟨w7, hw7⟩ : ∃ w7, w7 = wr := ⟨_, rfl⟩
                subst hw7
                have hT7 : Solo P k w3 N S σ m w7 := ⟨Book.p0back (B := w6.heap.size) (by rw [← HQ.out]; exact HT.out.1) HPF.out, HT.out.2⟩
                have HT7 := Lib.hid hT7
                have H7 := Lib.hid (hT7.k.below_of H3.out (w0 := w) HPW.out)
                obtain ⟨hc, hk7⟩ := HROW.out w7 hT7.k
                have hnv := few_nv HF.out
                have hjw := bjoin_walk ts q lr cr w7 hT7.b (fun b hb => HP.out b (Nat.le_trans hT7.k.size hb)) (hk7.reads' (veil_reads _ _)) hk7 HRL.out.1 (HKL.out.below H7.out) (by omega)
                have HJW := Lib.hid hjw; have HNV := Lib.hid hnv
                clear hT7 hk7 hnv hjw HT HG HB7 HI HZ0 HZ1 HZ2
                go_wp2_with (fail)
                refine HJW.out.mono ?_
                rintro e w8 ⟨hk8, ⟨rfl, hB8, -⟩ | ⟨rfl, hhas, σ', hB8⟩⟩
                · have HT8 := Lib.hid (show Solo P k w3 N S σ m w8 from ⟨hB8, HT7.out.k.trans (hk8.mono HPK.out)⟩)
                  have HOWN := Lib.hid (show ∀ g, (Value.slice a2 N c2).ownBlock = some g → w6.heap.size ≤ g from fun g hg => by
                    obtain ⟨xs, h1, _⟩ := HR.out
                    exact (own_row_lt h1 hg).2)
                  have HR8 := Lib.hid (HR.out.kp hk8 HPK.out (fun g hg => pk_true (by have := HOWN.out g hg; have := HLOW.out; omega)))
                  have hc8 := (HROW.out w8 HT8.out.k).1
                  clear hk8 hB8 hc HJW HR
                  go_wp2_with (fail)
                  go_loopw [13] (fun i wr => i = .int .i64 0 ∧ wr = w8) (fun _ _ => 0)
                  case atStart => exact ⟨rfl, rfl⟩
                  case round =>
                    obtain ⟨rfl, rfl⟩ := hrel
                    rcases Nat.eq_zero_or_pos lr with hz0 | hz0
                    · subst hz0
                      go_wp2_with (fail)
                      clear hc8
                      go_loopw [18] (fun i wr => ∃ j5 : Nat, j5 ≤ N ∧ i = .int .i64 j5 ∧ Hid (Solo P k w3 N S σ m wr) ∧ Hid (RowL P w6.heap.size (.slice a2 N c2) (senL N σ N) wr)) (fun i _ => N - (intOf i).toNat)
                      case atStart => exact ⟨0, Nat.zero_le _, rfl, HT8, HR8⟩
                      case round =>
                        obtain ⟨j5, hj5, rfl, HT, HR⟩ := hrel
                        by_cases hlt5 : j5 < N
                        · go_wp2_with (fail)
                          refine (v_walk _ wr).mono ?_
                          rintro e w9 ⟨rfl, hb9⟩
                          have hT9 := HT.out.below hb9
                          have hsw := bsense_walk ⟨5, (j5 : Nat)⟩ none 0 0 (tyV j5) 2000 w9 hT9.b (tyV_is _ (by omega)) (tyV_is _ (by omega)) (HKL.out.below (hT9.k.below_of H3.out (w0 := w) HPW.out)) (by omega) (by omega) (by rw [wt_tyV]; omega) (by omega)
                          have HSW := Lib.hid hsw; have HT9 := Lib.hid hT9; have HR9 := Lib.hid (HR.out.below hb9); have HZ9 := Lib.hid hb9.size
                          clear hb9 hT9 hsw
                          go_wp2_with (fail)
                          refine HSW.out.mono ?_
                          rintro e w10 ⟨hB10, hk10, ⟨x0, x1⟩, q10, l10, c10, rfl, hx10⟩
                          have HT10 := Lib.hid (show Solo P k w3 N S σ m w10 from ⟨hB10, HT9.out.k.trans (hk10.mono HPK.out)⟩)
                          have HR10 := Lib.hid (HR9.out.kp hk10 HPK.out (fun g hg => pk_true (by have := HOWN.out g hg; have := HLOW.out; omega)))
                          have HX10 := Lib.hid hx10
                          clear hB10 hk10 hx10 HSW HR9 HT9
                          generalize outE N σ (tyV j5) 2000 = EE at *
                          have hal := al_new (W := w10) (.cells #[.int .u8 x0, .int .i64 x1, .slice q10 l10 c10] 25)
                          obtain ⟨W, hW⟩ : ∃ W, W = w10.alloc (.cells #[.int .u8 x0, .int .i64 x1, .slice q10 l10 c10] 25) := ⟨_, rfl⟩
                          have hxb : W.heap[w10.heap.size]? = some (.cells #[.int .u8 x0, .int .i64 x1, .slice q10 l10 c10] 25 (0, 0)) := by rw [hW]; exact heap_alloc_new w10 _
                          rw [← hW] at hal
                          have hrow := HR10.out.below hal
                          have hkr := RowL.kids (ts := senL N σ N) (c := c2) (by rw [senL_len]; exact hrow) fun b hb _ => HP.out b (Nat.le_trans HW36.out hb)
                          obtain ⟨b2, o2, q2, d2', rfl, hT2, g0, g1, g2⟩ := hkr.get j5 (by rw [senL_len]; exact hlt5)
                          rw [senL_get N σ hlt5] at hT2 g0 g1 g2
                          have HC := Lib.hid (And.intro (veil_seen g0).2 (And.intro (veil_seen g1).2 (veil_seen g2).2))
                          have HBL := Lib.hid (World.block_lt_of_cell? _ _ (veil_seen g0).2)
                          have HT2 := Lib.hid (hT2.reads' (veil_reads _ _)); have HXB := Lib.hid hxb; have HX11 := Lib.hid ((HX10.out.reads' (veil_reads _ _)).below hal); have HAL := Lib.hid hal
                          clear hrow hkr hT2 g0 g1 g2 hxb hal
                          generalize outT N σ (tyV j5) 2000 = tt at *
                          go_upto_region 31 with (fail)
                          rw [← hW]
                          clear hW
                          refine wp_region_held_drew (S := fun V => ∀ i, i < W.heap.size → V.heap[i]? = W.heap[i]?) (by kernel_rfl) (fun _ _ => rfl) (fun hHeld => ?_)
                          refine wpAnyH_take (i := 0) (v := .agg #[.int .u8 x0, .int .i64 x1, .slice q10 l10 c10]) rfl (by kernel_rfl) (by kernel_rfl) (by kernel_rfl) (fun _ _ _ h => h) (Or.inl ⟨by rfl, ?_⟩) (by assumption) ?_
                          · intro w' hSw
                            obtain ⟨⟨d0, d1, d2⟩, -, dl⟩ := c3 ((hSw _ (lt_of_block HXB.out)).trans HXB.out)
                            first | (go_simp; done) | (go_simp; intro h0; omega) | rfl
                          try simp only [Act.put, List.getElem_toArray, List.getElem_cons_succ, List.getElem_cons_zero, List.setIfInBounds_toArray, List.set_cons_zero, List.set_cons_succ]
                          refine wpAnyH_take (i := 1) (v := .slice (some ⟨b2, o2, none⟩) N c2) rfl (by kernel_rfl) (by kernel_rfl) (by kernel_rfl) (fun _ _ _ h => h) (Or.inl ⟨by rfl, ?_⟩) (by assumption) ?_
                          · intro w' hSw
                            first | (go_simp; done) | (go_simp; intro h0; omega) | rfl
                          try simp only [Act.put, List.getElem_toArray, List.getElem_cons_succ, List.getElem_cons_zero, List.setIfInBounds_toArray, List.set_cons_zero, List.set_cons_succ]
                          refine wpAnyH_take (i := 2) (v := .int .i64 (j5 : Int)) rfl (by kernel_rfl) (by kernel_rfl) (by kernel_rfl) (fun _ _ _ h => h) (Or.inl ⟨by rfl, ?_⟩) (by assumption) ?_
                          · intro w' hSw
                            first | (go_simp; done) | (go_simp; intro h0; omega) | rfl
                          try simp only [Act.put, List.getElem_toArray, List.getElem_cons_succ, List.getElem_cons_zero, List.setIfInBounds_toArray, List.set_cons_zero, List.set_cons_succ]
                          refine wpAnyH_take (i := 3) (v := .pointer (some ⟨b2, o2 + j5 * 3, none⟩)) rfl (by kernel_rfl) (by kernel_rfl) (by kernel_rfl) (fun _ _ _ h => h) (Or.inl ⟨by rfl, ?_⟩) (by assumption) ?_
                          · intro w' hSw
                            first | (go_simp; done) | (go_simp; intro h0; omega) | rfl
                          try simp only [Act.put, List.getElem_toArray, List.getElem_cons_succ, List.getElem_cons_zero, List.setIfInBounds_toArray, List.set_cons_zero, List.set_cons_succ]
                          refine wpAnyH_take (i := 4) (v := .agg #[.int .u8 tt.h.k, .int .i64 tt.h.v, .slice q2 tt.ks.length d2']) rfl (by kernel_rfl) (by kernel_rfl) (by kernel_rfl) (fun _ _ _ h => h) (Or.inl ⟨by rfl, ?_⟩) (by assumption) ?_
                          · intro w' hSw
                            have hcs : ∀ i, w'.cell? ⟨b2, i, none⟩ = W.cell? ⟨b2, i, none⟩ := fun i => cell_same (hSw b2 HBL.out)
                            have y0 := (hcs (o2 + j5 * 3)).trans HC.out.1
                            have y1 := (hcs (o2 + j5 * 3 + 1)).trans HC.out.2.1
                            have y2 := (hcs (o2 + j5 * 3 + 2)).trans HC.out.2.2
                            clear hcs
                            first | (go_simp; done) | (go_simp; intro h0; omega) | rfl
                          try simp only [Act.put, List.getElem_toArray, List.getElem_cons_succ, List.getElem_cons_zero, List.setIfInBounds_toArray, List.set_cons_zero, List.set_cons_succ]
                          refine wpAnyH_ready (rs := [5]) (by kernel_rfl) (by simp) ?_
                          refine AllReadyH.cons rfl (fun K hK => ?_) AllReadyH.nil
                          have HK2 := Lib.hid hK
                          clear hK
                          try rw [if_pos (by rfl)]
                          go_simp
                          refine (refSame_walk _ _ _ ⟨x0, x1⟩ _ q10 q2 l10 c10 _ d2' _ (Nat.le_refl _) (HX11.out.below (Below.drew (Below.refl _ _))) (HT2.out.below (Below.drew (Below.refl _ _)))).mono ?_
                          rintro e w12 ⟨rfl, hb12⟩
                          rw [same_self]
                          have hb12' : Below W.heap.size W w12 := ⟨hb12.os, hb12.tape, hb12.output, hb12.size, hb12.block⟩
                          have HB12 := Lib.hid hb12'
                          clear hb12 hb12'
                          refine HK2.out _ _ (fun i hi => HB12.out.block i hi) (fun hHeld => ?_)
                          clear HK2
                          try simp only [Act.put, List.getElem_toArray, List.getElem_cons_succ, List.getElem_cons_zero, List.setIfInBounds_toArray, List.set_cons_zero, List.set_cons_succ]
                          clear K
                          refine wpAnyH_take (i := 6) (v := .bool false) rfl (by kernel_rfl) (by kernel_rfl) (by kernel_rfl) (fun _ _ _ h => h) (Or.inl ⟨by rfl, ?_⟩) (by assumption) ?_
                          · intro w' hSw
                            first | (go_simp; done) | (go_simp; intro h0; omega) | rfl
                          try simp only [Act.put, List.getElem_toArray, List.getElem_cons_succ, List.getElem_cons_zero, List.setIfInBounds_toArray, List.set_cons_zero, List.set_cons_succ]
                          refine wpAnyH_done (by kernel_rfl) ?_ _
                          clear hHeld
                          have hb12 := HAL.out.trans (HB12.out.mono HAL.out.size)
                          have HT12 := Lib.hid (HT10.out.below hb12); have HR12 := Lib.hid (HR10.out.below hb12)
                          clear hb12
                          go_wp2_with (fail)
                          go_roundw
                          case rel => exact ⟨j5 + 1, by omega, by go_num, HT12, HR12⟩
                          case measure => simp [intOf]; omega
                        · obtain rfl : N = j5 := by omega
                          go_wp2_with (fail)
                          go_roundw
                          case rel => exact ⟨j + 1, m, S, σ, by omega, by go_num, HT, Lib.hid (by have := HM.out; omega)⟩
                          case measure => simp [intOf]; omega
                    · skip
                      go_wp2_with (fail)
                      clear hc8
                      go_loopw [18] (fun i wr => ∃ j5 : Nat, j5 ≤ N ∧ i = .int .i64 j5 ∧ Hid (Solo P k w3 N S σ m wr) ∧ Hid (RowL P w6.heap.size (.slice a2 N c2) (senL N σ N) wr)) (fun i _ => N - (intOf i).toNat)
                      case atStart => exact ⟨0, Nat.zero_le _, rfl, HT8, HR8⟩
                      case round =>
                        obtain ⟨j5, hj5, rfl, HT, HR⟩ := hrel
                        by_cases hlt5 : j5 < N
                        · go_wp2_with (fail)
                          refine (v_walk _ wr).mono ?_
                          rintro e w9 ⟨rfl, hb9⟩
                          have hT9 := HT.out.below hb9
                          have hsw := bsense_walk ⟨5, (j5 : Nat)⟩ none 0 0 (tyV j5) 2000 w9 hT9.b (tyV_is _ (by omega)) (tyV_is _ (by omega)) (HKL.out.below (hT9.k.below_of H3.out (w0 := w) HPW.out)) (by omega) (by omega) (by rw [wt_tyV]; omega) (by omega)
                          have HSW := Lib.hid hsw; have HT9 := Lib.hid hT9; have HR9 := Lib.hid (HR.out.below hb9); have HZ9 := Lib.hid hb9.size
                          clear hb9 hT9 hsw
                          go_wp2_with (fail)
                          refine HSW.out.mono ?_
                          rintro e w10 ⟨hB10, hk10, ⟨x0, x1⟩, q10, l10, c10, rfl, hx10⟩
                          have HT10 := Lib.hid (show Solo P k w3 N S σ m w10 from ⟨hB10, HT9.out.k.trans (hk10.mono HPK.out)⟩)
                          have HR10 := Lib.hid (HR9.out.kp hk10 HPK.out (fun g hg => pk_true (by have := HOWN.out g hg; have := HLOW.out; omega)))
                          have HX10 := Lib.hid hx10
                          clear hB10 hk10 hx10 HSW HR9 HT9
                          generalize outE N σ (tyV j5) 2000 = EE at *
                          have hal := al_new (W := w10) (.cells #[.int .u8 x0, .int .i64 x1, .slice q10 l10 c10] 25)
                          obtain ⟨W, hW⟩ : ∃ W, W = w10.alloc (.cells #[.int .u8 x0, .int .i64 x1, .slice q10 l10 c10] 25) := ⟨_, rfl⟩
                          have hxb : W.heap[w10.heap.size]? = some (.cells #[.int .u8 x0, .int .i64 x1, .slice q10 l10 c10] 25 (0, 0)) := by rw [hW]; exact heap_alloc_new w10 _
                          rw [← hW] at hal
                          have hrow := HR10.out.below hal
                          have hkr := RowL.kids (ts := senL N σ N) (c := c2) (by rw [senL_len]; exact hrow) fun b hb _ => HP.out b (Nat.le_trans HW36.out hb)
                          obtain ⟨b2, o2, q2, d2', rfl, hT2, g0, g1, g2⟩ := hkr.get j5 (by rw [senL_len]; exact hlt5)
                          rw [senL_get N σ hlt5] at hT2 g0 g1 g2
                          have HC := Lib.hid (And.intro (veil_seen g0).2 (And.intro (veil_seen g1).2 (veil_seen g2).2))
                          have HBL := Lib.hid (World.block_lt_of_cell? _ _ (veil_seen g0).2)
                          have HT2 := Lib.hid (hT2.reads' (veil_reads _ _)); have HXB := Lib.hid hxb; have HX11 := Lib.hid ((HX10.out.reads' (veil_reads _ _)).below hal); have HAL := Lib.hid hal
                          clear hrow hkr hT2 g0 g1 g2 hxb hal
                          generalize outT N σ (tyV j5) 2000 = tt at *
                          go_upto_region 31 with (fail)
                          rw [← hW]
                          clear hW
                          refine wp_region_held_drew (S := fun V => ∀ i, i < W.heap.size → V.heap[i]? = W.heap[i]?) (by kernel_rfl) (fun _ _ => rfl) (fun hHeld => ?_)
                          refine wpAnyH_take (i := 0) (v := .agg #[.int .u8 x0, .int .i64 x1, .slice q10 l10 c10]) rfl (by kernel_rfl) (by kernel_rfl) (by kernel_rfl) (fun _ _ _ h => h) (Or.inl ⟨by rfl, ?_⟩) (by assumption) ?_
                          · intro w' hSw
                            obtain ⟨⟨d0, d1, d2⟩, -, dl⟩ := c3 ((hSw _ (lt_of_block HXB.out)).trans HXB.out)
                            first | (go_simp; done) | (go_simp; intro h0; omega) | rfl
                          try simp only [Act.put, List.getElem_toArray, List.getElem_cons_succ, List.getElem_cons_zero, List.setIfInBounds_toArray, List.set_cons_zero, List.set_cons_succ]
                          refine wpAnyH_take (i := 1) (v := .slice (some ⟨b2, o2, none⟩) N c2) rfl (by kernel_rfl) (by kernel_rfl) (by kernel_rfl) (fun _ _ _ h => h) (Or.inl ⟨by rfl, ?_⟩) (by assumption) ?_
                          · intro w' hSw
                            first | (go_simp; done) | (go_simp; intro h0; omega) | rfl
                          try simp only [Act.put, List.getElem_toArray, List.getElem_cons_succ, List.getElem_cons_zero, List.setIfInBounds_toArray, List.set_cons_zero, List.set_cons_succ]
                          refine wpAnyH_take (i := 2) (v := .int .i64 (j5 : Int)) rfl (by kernel_rfl) (by kernel_rfl) (by kernel_rfl) (fun _ _ _ h => h) (Or.inl ⟨by rfl, ?_⟩) (by assumption) ?_
                          · intro w' hSw
                            first | (go_simp; done) | (go_simp; intro h0; omega) | rfl
                          try simp only [Act.put, List.getElem_toArray, List.getElem_cons_succ, List.getElem_cons_zero, List.setIfInBounds_toArray, List.set_cons_zero, List.set_cons_succ]
                          refine wpAnyH_take (i := 3) (v := .pointer (some ⟨b2, o2 + j5 * 3, none⟩)) rfl (by kernel_rfl) (by kernel_rfl) (by kernel_rfl) (fun _ _ _ h => h) (Or.inl ⟨by rfl, ?_⟩) (by assumption) ?_
                          · intro w' hSw
                            first | (go_simp; done) | (go_simp; intro h0; omega) | rfl
                          try simp only [Act.put, List.getElem_toArray, List.getElem_cons_succ, List.getElem_cons_zero, List.setIfInBounds_toArray, List.set_cons_zero, List.set_cons_succ]
                          refine wpAnyH_take (i := 4) (v := .agg #[.int .u8 tt.h.k, .int .i64 tt.h.v, .slice q2 tt.ks.length d2']) rfl (by kernel_rfl) (by kernel_rfl) (by kernel_rfl) (fun _ _ _ h => h) (Or.inl ⟨by rfl, ?_⟩) (by assumption) ?_
                          · intro w' hSw
                            have hcs : ∀ i, w'.cell? ⟨b2, i, none⟩ = W.cell? ⟨b2, i, none⟩ := fun i => cell_same (hSw b2 HBL.out)
                            have y0 := (hcs (o2 + j5 * 3)).trans HC.out.1
                            have y1 := (hcs (o2 + j5 * 3 + 1)).trans HC.out.2.1
                            have y2 := (hcs (o2 + j5 * 3 + 2)).trans HC.out.2.2
                            clear hcs
                            first | (go_simp; done) | (go_simp; intro h0; omega) | rfl
                          try simp only [Act.put, List.getElem_toArray, List.getElem_cons_succ, List.getElem_cons_zero, List.setIfInBounds_toArray, List.set_cons_zero, List.set_cons_succ]
                          refine wpAnyH_ready (rs := [5]) (by kernel_rfl) (by simp) ?_
                          refine AllReadyH.cons rfl (fun K hK => ?_) AllReadyH.nil
                          have HK2 := Lib.hid hK
                          clear hK
                          try rw [if_pos (by rfl)]
                          go_simp
                          refine (refSame_walk _ _ _ ⟨x0, x1⟩ _ q10 q2 l10 c10 _ d2' _ (Nat.le_refl _) (HX11.out.below (Below.drew (Below.refl _ _))) (HT2.out.below (Below.drew (Below.refl _ _)))).mono ?_
                          rintro e w12 ⟨rfl, hb12⟩
                          rw [same_self]
                          have hb12' : Below W.heap.size W w12 := ⟨hb12.os, hb12.tape, hb12.output, hb12.size, hb12.block⟩
                          have HB12 := Lib.hid hb12'
                          clear hb12 hb12'
                          refine HK2.out _ _ (fun i hi => HB12.out.block i hi) (fun hHeld => ?_)
                          clear HK2
                          try simp only [Act.put, List.getElem_toArray, List.getElem_cons_succ, List.getElem_cons_zero, List.setIfInBounds_toArray, List.set_cons_zero, List.set_cons_succ]
                          clear K
                          refine wpAnyH_take (i := 6) (v := .bool false) rfl (by kernel_rfl) (by kernel_rfl) (by kernel_rfl) (fun _ _ _ h => h) (Or.inl ⟨by rfl, ?_⟩) (by assumption) ?_
                          · intro w' hSw
                            first | (go_simp; done) | (go_simp; intro h0; omega) | rfl
                          try simp only [Act.put, List.getElem_toArray, List.getElem_cons_succ, List.getElem_cons_zero, List.setIfInBounds_toArray, List.set_cons_zero, List.set_cons_succ]
                          refine wpAnyH_done (by kernel_rfl) ?_ _
                          clear hHeld
                          have hb12 := HAL.out.trans (HB12.out.mono HAL.out.size)
                          have HT12 := Lib.hid (HT10.out.below hb12); have HR12 := Lib.hid (HR10.out.below hb12)
                          clear hb12
                          go_wp2_with (fail)
                          go_roundw
                          case rel => exact ⟨j5 + 1, by omega, by go_num, HT12, HR12⟩
                          case measure => simp [intOf]; omega
                        · obtain rfl : N = j5 := by omega
                          go_wp2_with (fail)
                          go_roundw
                          case rel => exact ⟨j + 1, m, S, σ, by omega, by go_num, HT, Lib.hid (by have := HM.out; omega)⟩
                          case measure => simp [intOf]; omega
                · have hTn : Solo P k w3 N (fun θ => S θ ∧ AllOne ts θ) σ' (N + m + nvK ts) w8 := ⟨hB8, HT7.out.k.trans (hk8.mono HPK.out)⟩
                  have HT8 := Lib.hid hTn
                  have HONE := Lib.hid (show ∀ a ∈ ts, ∀ b ∈ ts, hasB N a = true ∧ hasB N b = true ∧ inst σ' a = inst σ' b from fun a ha b hb => ⟨hhas a ha, hhas b hb, hB8.isSen.is.2 a ha b hb⟩)
                  clear hk8 hB8 hhas hc HJW HR hTn
                  go_wp2_with (fail)
                  go_loopw [13] (fun i wr => ∃ j4 : Nat, j4 ≤ lr ∧ i = .int .i64 j4 ∧ Hid (Solo P k w3 N (fun θ => S θ ∧ AllOne ts θ) σ' (N + m + nvK ts) wr)) (fun i _ => lr - (intOf i).toNat)
                  case atStart => exact ⟨0, Nat.zero_le _, rfl, HT8⟩
                  case round =>
                    obtain ⟨j4, hj4, rfl, HT⟩ := hrel
                    obtain ⟨hc9, hkr⟩ := HROW.out wr HT.out.k
                    by_cases hlt4 : j4 < lr
                    · have hi0 : 0 < ts.length := by rw [HRL.out.1]; omega
                      have hi4 : j4 < ts.length := by rw [HRL.out.1]; exact hlt4
                      obtain ⟨b1, o1, q1, c1, rfl, hT1, d0, d1, d2⟩ := hkr.get 0 hi0
                      have hHA := HONE.out _ (tget_mem hi0) _ (tget_mem hi4)
                      have HX := Lib.hid (out_same hHA.1 hHA.2.1 hHA.2.2 2000)
                      have HI4 := Lib.hid hi4
                      have d0 := (veil_seen d0).2; have d1 := (veil_seen d1).2; have d2 := (veil_seen d2).2
                      simp only [Nat.zero_mul, Nat.add_zero] at d0 d1 d2
                      have hsw := bsense_walk _ _ _ _ (tget ts 0) 2000 wr HT.out.b (hT1.reads' (veil_reads _ _)) hT1 (HKL.out.below (HT.out.k.below_of H3.out (w0 := w) HPW.out)) (by omega) (by have := HNV.out; omega) (by have := HF.out.2 _ (tget_mem hi0); omega) (by omega)
                      have HSW := Lib.hid hsw
                      clear hsw hT1 hHA hi0 hi4 hkr
                      generalize tget ts 0 = t0 at *
                      go_wp2_with (fail)
                      refine HSW.out.mono ?_
                      rintro e w9 ⟨hB9, hk9, ⟨x0, x1⟩, q9, l9, c9', rfl, hx9⟩
                      have hT9 : Solo P k w3 N (fun θ => S θ ∧ AllOne ts θ) σ' (N + m + nvK ts) w9 := ⟨hB9, HT.out.k.trans (hk9.mono HPK.out)⟩
                      have hal := al_new (W := w9) (.cells #[.int .u8 x0, .int .i64 x1, .slice q9 l9 c9'] 25)
                      obtain ⟨W10, hW10⟩ : ∃ W, W = w9.alloc (.cells #[.int .u8 x0, .int .i64 x1, .slice q9 l9 c9'] 25) := ⟨_, rfl⟩
                      have hx10 : W10.heap[w9.heap.size]? = some (.cells #[.int .u8 x0, .int .i64 x1, .slice q9 l9 c9'] 25 (0, 0)) := by rw [hW10]; exact heap_alloc_new w9 _
                      rw [← hW10] at hal
                      have hT10 := hT9.below hal
                      obtain ⟨hc10, hkr⟩ := HROW.out W10 hT10.k
                      obtain ⟨b1', o1', q4, c4, hp, hT4, g0, g1, g2⟩ := hkr.get j4 HI4.out
                      injection hp with hp
                      injection hp with hp1 hp2
                      subst hp1 hp2
                      have g0 := (veil_seen g0).2; have g1 := (veil_seen g1).2; have g2 := (veil_seen g2).2
                      have hsw := bsense_walk _ _ _ _ (tget ts j4) 2000 W10 hT10.b (hT4.reads' (veil_reads _ _)) hT4 (HKL.out.below (hT10.k.below_of H3.out (w0 := w) HPW.out)) (by omega) (by have := HNV.out; omega) (by have := HF.out.2 _ (tget_mem HI4.out); omega) (by omega)
                      rw [← HX.out.1, ← HX.out.2] at hsw
                      have HSW2 := Lib.hid hsw; have HT10 := Lib.hid hT10; have HX10 := Lib.hid (ty_bel hx9 hal); have HXB := Lib.hid hx10; have HLE := Lib.hid hk9.size; have HMM := Lib.hid HT.out.k.size
                      clear hsw hT4 hkr hB9 hk9 hx9 hT9 hal hT10 hx10 hc9 d0 d1 d2 HSW
                      have hee : ((outE N σ' t0 2000 : Int) != outE N σ' t0 2000) = false := by simp
                      generalize outE N σ' t0 2000 = EE at *
                      generalize tget ts j4 = t4 at *
                      subst hW10
                      go_wp2_with (fail)
                      refine HSW2.out.mono ?_
                      rintro e w11 ⟨hB11, hk11, ⟨y0, y1⟩, q11, l11, c11, rfl, hx11⟩
                      have HT11 := Lib.hid (show Solo P k w3 N (fun θ => S θ ∧ AllOne ts θ) σ' (N + m + nvK ts) w11 from ⟨hB11, HT10.out.k.trans (hk11.mono HPK.out)⟩)
                      have hxb := (hk11.block _ (lt_of_block HXB.out) (pk_true (by have := HKE.out; have := HLE.out; have := HMM.out; omega))).trans HXB.out
                      have HX11 := Lib.hid ((ty_kp HX10.out hk11 (by have := HKE.out; have := HMM.out; omega)).reads' (veil_reads _ _)); have HY11 := Lib.hid (hx11.reads' (veil_reads _ _))
                      obtain ⟨⟨f0, f1, f2⟩, -, fl⟩ := c3 hxb
                      clear hB11 hk11 hx11 hxb HSW2 HXB HX10 g0 g1 g2 hc10
                      go_wp2_with (fail)
                      have hal := al_new (W := w11) (.cells #[.int .u8 y0, .int .i64 y1, .slice q11 l11 c11] 25)
                      refine (refSame_walk _ _ _ ⟨x0, x1⟩ ⟨y0, y1⟩ q9 q11 l9 c9' l11 c11 _ (Nat.le_refl _) (HX11.out.below hal) (HY11.out.below hal)).mono ?_
                      rintro e w12 ⟨rfl, hb12⟩
                      rw [same_self]
                      have HT12 := Lib.hid (HT11.out.below (hal.trans (hb12.mono (by simp))))
                      clear hal hb12 f0 f1 f2 fl
                      go_wp2_with (fail)
                      go_roundw
                      case rel => exact ⟨j4 + 1, by omega, by go_num, HT12⟩
                      case measure => simp [intOf]; omega
                    · obtain rfl : lr = j4 := by omega
                      obtain ⟨w9, hw9⟩ : ∃ w9, w9 = wr := ⟨_, rfl⟩
                      subst hw9
                      go_wp2_with (fail)
                      go_loopw [18] (fun i wr => i = .int .i64 0 ∧ wr = w9) (fun _ _ => 0)
                      case atStart => exact ⟨rfl, rfl⟩
                      case round =>
                        obtain ⟨rfl, rfl⟩ := hrel
                        rcases Nat.eq_zero_or_pos N with hz0 | hz0
                        · subst hz0
                          go_wp2_with (fail)
                          go_roundw
                          case rel => exact ⟨j + 1, _, _, _, by omega, by go_num, HT, Lib.hid (by have := HM.out; have := HNV.out; omega)⟩
                          case measure => simp [intOf]; omega
                        · go_wp2_with (fail)
                          go_roundw
                          case rel => exact ⟨j + 1, _, _, _, by omega, by go_num, HT, Lib.hid (by have := HM.out; have := HNV.out; omega)⟩
                          case measure => simp [intOf]; omega
        · go_wp2_with (fail)
          refine (HAW.out _ HBW.out).mono ?_
          rintro e wa ⟨rfl, hba⟩
          have HA := Lib.hid (HBW.out.trans (hba.mono HBW.out.size))
          clear hba
          go_wp2_with (fail)
          go_ret
          exact ⟨rfl, HA.out⟩
end Types
end Go.Proofs.YtjchplgapaeagaaDoor
