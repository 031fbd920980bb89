/- The walk of layer 9's statement on the order of types. -/
import Derived.Test.YtjchplgapaeagaaDoorUnTwo
namespace Go.Proofs.YtjchplgapaeagaaDoor
open Go.RowKit
set_option linter.unusedVariables false
set_option linter.unusedSimpArgs false
namespace Types

/-- All but so many blocks from one on. -/
def PB (S m b : Nat) : Bool := decide (b < S ∨ S + m ≤ b)
theorem pb_true {S m b : Nat} (h : b < S ∨ S + m ≤ b) : PB S m b = true := decide_eq_true h
theorem pb_false {S m b : Nat} (h : S ≤ b ∧ b < S + m) : PB S m b = false := decide_eq_false (by omega)
/-- Two books, both as they are told, and all else as it was. -/
structure Twin (P : Nat → Bool) (k1 k2 : Bk) (w : World) (n : Nat) (S : (Nat → Ty) → Prop) (σ : Nat → Ty) (m : Nat) (W : World) : Prop where
  a : Book P k1 W n S σ m
  b : Book P k2 W n S σ m
  k : Kp P w W
theorem Twin.below {P : Nat → Bool} {k1 k2 : Bk} {w W W' : World} {n m : Nat} {S : (Nat → Ty) → Prop} {σ : Nat → Ty} (h : Twin P k1 k2 w n S σ m W) (hb : Below W.heap.size W W') : Twin P k1 k2 w n S σ m W' := ⟨h.a.below hb, h.b.below hb, h.k.trans (Kp.of_below hb)⟩
set_option maxRecDepth 100000 in
set_option maxHeartbeats 12800000 in
theorem unifyTurns_walk (n : Int) (p : Option Addr) (l d : Nat) (ts : List Ty) (w : World) (hn : 0 ≤ n ∧ n ≤ 255) (hl : ts.length = l) (hm : l ≤ maxLen) (hK : Kids w p ts) (hkl : KidsLaid w) :
    Calls Tryd.prog 5 #[.int .u8 n, .slice p l d] w fun e w' => e = .returned (.bool true) ∧ Below w.heap.size w w' := by
  have haw := fun W (hb : Below w.heap.size w W) => awake_walk W (hkl.below hb)
  have HAW := Lib.hid haw
  by_cases h20 : n ≤ 20
  case neg =>
    have HR := Lib.hid (Below.refl w.heap.size w)
    clear hn hl hm hK hkl haw
    go_enter Tryd.func5, Tryd.ntmps5
    go_wp2_with (fail)
    refine (HAW.out _ HR.out).mono ?_
    rintro e w2 ⟨rfl, hb2⟩
    have H2 := Lib.hid hb2
    clear hb2
    go_wp2_with (fail)
    go_ret
    exact ⟨rfl, H2.out⟩
  obtain ⟨N, rfl⟩ : ∃ N : Nat, n = (N : Int) := ⟨n.toNat, by omega⟩
  have hN : N ≤ 20 := by omega
  have hgw := lgreat_walk ts p l d w hl hm hK
  have HGW := Lib.hid hgw; have HL := Lib.hid hl; have HK := Lib.hid hK; have HKL := Lib.hid hkl
  clear hn hgw hl hm hK hkl haw h20
  go_enter Tryd.func5, Tryd.ntmps5
  go_wp2_with (fail)
  refine HGW.out.mono ?_
  rintro e w1 ⟨b, rfl, hf, hb1⟩
  have H1 := Lib.hid hb1
  clear hb1 HGW
  cases b with
  | true =>
    clear hf
    go_wp2_with (fail)
    refine (HAW.out _ H1.out).mono ?_
    rintro e w2 ⟨rfl, hb2⟩
    have H2 := Lib.hid (H1.out.trans (hb2.mono H1.out.size))
    clear hb2
    go_wp2_with (fail)
    go_ret
    exact ⟨rfl, H2.out⟩
  | false =>
    have HF := Lib.hid (hf rfl)
    clear hf
    go_wp2_with (fail)
    refine (bnew_walk (PB w1.heap.size 6) w1 (pb_false (by omega)) (pb_false (by omega)) (pb_false (by omega))).mono ?_
    rintro e w2 ⟨rfl, hb2, hB2, hs2⟩
    obtain ⟨k1, hk1⟩ : ∃ k : Bk, k = ⟨w1.heap.size + 2, w1.heap.size, w1.heap.size + 1⟩ := ⟨_, rfl⟩
    have hkb1 : w1.heap.size + 2 = k1.b := by rw [hk1]
    rw [← hk1] at hB2
    rw [hkb1]
    have HK1 := Lib.hid hk1; have HB2 := Lib.hid hB2; have H2 := Lib.hid (And.intro hb2 hs2)
    clear hk1 hkb1 hB2 hb2 hs2
    go_wp2_with (fail)
    refine (bnew_walk (PB w1.heap.size 6) w2 (pb_false (by have := H2.out.2; omega)) (pb_false (by have := H2.out.2; omega)) (pb_false (by have := H2.out.2; omega))).mono ?_
    rintro e w3 ⟨rfl, hb3, hB3, hs3⟩
    obtain ⟨k2, hk2⟩ : ∃ k : Bk, k = ⟨w2.heap.size + 2, w2.heap.size, w2.heap.size + 1⟩ := ⟨_, rfl⟩
    have hkb2 : w2.heap.size + 2 = k2.b := by rw [hk2]
    rw [← hk2] at hB3
    rw [hkb2]
    obtain ⟨P, hP⟩ : ∃ P, P = PB w1.heap.size 6 := ⟨_, rfl⟩
    have hB2' := HB2.out
    rw [← hP] at hB3 hB2'
    have HT3 := Lib.hid (show Twin P k1 k2 w3 0 (fun _ => True) tyV 0 w3 from ⟨hB2'.below hb3, hB3, Kp.refl _ _⟩)
    have HD := Lib.hid (show (PK k1 k2.b = true ∧ PK k1 k2.s = true ∧ PK k1 k2.i = true) ∧ (PK k2 k1.b = true ∧ PK k2 k1.s = true ∧ PK k2 k1.i = true) from by
      have h1 := HK1.out; have h2 := H2.out.2
      subst h1 hk2
      exact ⟨⟨pk_true (by dsimp only; omega), pk_true (by dsimp only; omega), pk_true (by dsimp only; omega)⟩, ⟨pk_true (by dsimp only; omega), pk_true (by dsimp only; omega), pk_true (by dsimp only; omega)⟩⟩)
    have HP := Lib.hid (show (∀ b, w3.heap.size ≤ b → P b = true) ∧ (∀ b, b < w1.heap.size → P b = true) from by
      subst hP
      have h2 := H2.out.2
      exact ⟨fun b hb => pb_true (by omega), fun b hb => pb_true (by omega)⟩)
    have H3 := Lib.hid (show Below w.heap.size w w3 from (H1.out.trans (H2.out.1.mono H1.out.size)).trans (hb3.mono (Nat.le_trans H1.out.size H2.out.1.size)))
    have HKP := Lib.hid (show Kids (veil P w3) p ts from HK.out.reads' (veil_from fun b hb => ⟨HP.out.2 b (Nat.lt_of_lt_of_le hb H1.out.size), H3.out.block b hb⟩))
    clear hk2 hkb2 hB3 hB2' hb3 hs3 hP HB2
    go_wp2_with (fail)
    go_loopw [7] (fun i wr => ∃ j : Nat, j ≤ N ∧ i = .int .i64 j ∧ Hid (Twin P k1 k2 w3 j (fun _ => True) tyV 0 wr)) (fun i _ => N - (intOf i).toNat)
    case atStart => exact ⟨0, Nat.zero_le _, rfl, HT3⟩
    case round =>
      obtain ⟨j, hj, rfl, HT⟩ := hrel
      by_cases hlt : j < N
      · have hfw := bfresh_walk wr HT.out.a (by omega)
        have HFW := Lib.hid hfw
        clear hfw
        go_wp2_with (fail)
        refine HFW.out.mono ?_
        rintro e w4 ⟨rfl, hB4, hk4⟩
        have h2 := HT.out.a.other HT.out.b hk4 HD.out.1
        have hfw := bfresh_walk w4 h2 (by omega)
        have HFW2 := Lib.hid hfw; have HB4 := Lib.hid hB4; have HK4 := Lib.hid (HT.out.k.trans (HT.out.a.kpP hk4)); have HB2 := Lib.hid h2
        clear hfw hB4 hk4 h2 HFW
        go_wp2_with (fail)
        refine HFW2.out.mono ?_
        rintro e w5 ⟨rfl, hB5, hk5⟩
        have HT5 := Lib.hid (show Twin P k1 k2 w3 (j + 1) (fun _ => True) tyV 0 w5 from ⟨HB2.out.other HB4.out hk5 HD.out.2, hB5, HK4.out.trans (HB2.out.kpP hk5)⟩)
        clear hB5 hk5 HFW2
        go_wp2_with (fail)
        go_roundw
        case rel => exact ⟨j + 1, by omega, by go_num, HT5⟩
        case measure => simp [intOf]; omega
      · obtain rfl : N = j := by omega
        obtain ⟨w4, hw4⟩ : ∃ w4, w4 = wr := ⟨_, rfl⟩
        subst hw4
        have HT4 := HT
        have H4 := Lib.hid (HT.out.k.below_of H3.out (w0 := w) fun b hb => HP.out.2 b (Nat.lt_of_lt_of_le hb H1.out.size))
        have HKP4 := Lib.hid (HT.out.k.kids HKP.out)
        have hl10 : l ≤ 10 := by rw [← HL.out]; exact HF.out.1
        have HG := Lib.hid (heap_alloc_new w4 (.cells #[] 25))
        have HA := Lib.hid (al_new (W := w4) (.cells #[] 25))
        obtain ⟨i0, hi, hz0, hz1, hz2⟩ := info_parts infoType
        have HI := Lib.hid hi; have HZ0 := Lib.hid hz0; have HZ1 := Lib.hid hz1; have HZ2 := Lib.hid hz2
        clear HT3 HT hi hz0 hz1 hz2
        go_wp2_with (fail)
        go_loopw [8, 9] (fun back i wr => ∃ (j i1 c : Nat) (a : Option Addr), j + i1 = l ∧ back = .slice a j c ∧ i = .int .i64 ((i1 : Int) - 1) ∧ Hid (RowL P w4.heap.size (.slice a j c) (ts.reverse.take j) wr) ∧ Hid (Below w4.heap.size w4 wr)) (fun _ i _ => (intOf i + 1).toNat)
        case atStart => exact ⟨0, l, 0, _, by omega, rfl, rfl, Lib.hid (by rw [List.take_zero]; exact RowL.empty (Nat.le_refl _) HG.out), HA⟩
        case round =>
          obtain ⟨j, i1, c0, a, hj, rfl, rfl, HR, HB⟩ := hrel
          cases i1 with
          | succ i1 =>
            have e1 : ((i1 + 1 : Nat) : Int) - 1 = (i1 : Int) := by omega
            rw [e1]
            have hik : i1 < ts.length := by rw [HL.out]; omega
            have hrt : ts.reverse.take (j + 1) = ts.reverse.take j ++ [tget ts i1] := by rw [rev_take (by rw [HL.out]; omega), HL.out, show l - 1 - j = i1 by omega]
            obtain ⟨b, o, q, c', rfl, hT, d0, d1, d2⟩ := HKP4.out.get i1 hik
            have r := (veil_reads P w4).trans (Reads.of_below (w0 := w4) (W := wr) HB.out)
            have d0 := r _ _ d0; have d1 := r _ _ d1; have d2 := r _ _ d2
            have hnext : ∀ O : Obj, ∃ xs, (wr.alloc O).ownsRow w4.heap.size 25 3 (.slice a j c0) j xs ∧ ∀ v' w3, w3.ownsRow w4.heap.size 25 3 v' (j + 1) (xs ++ tcells (tget ts i1).h q (tget ts i1).ks.length c') → World.grownBy (wr.alloc O) w3 (Value.slice a j c0).ownBlock → (v'.ownBlock = (Value.slice a j c0).ownBlock ∨ v'.ownBlock = some (wr.alloc O).heap.size) → RowL P w4.heap.size v' (ts.reverse.take (j + 1)) w3 ∧ Below w4.heap.size w4 w3 := fun O => by
              have hlen : (ts.reverse.take j).length = j := by rw [List.length_take, List.length_reverse, HL.out]; omega
              have hB2 : Below w4.heap.size w4 (wr.alloc O) := HB.out.alloc HB.out.size O
              obtain ⟨xs, h1, h2⟩ := HR.out.below (al_new (W := wr) O)
              rw [hlen] at h1
              refine ⟨xs, h1, fun v' w3 ho3 hgr hat => ⟨?_, hB2.grown hgr hB2.size (fun g hg => (own_row_lt h1 hg).2)⟩⟩
              rw [hrt]
              exact RowL.step (by rw [hlen]; exact h1) h2 (ty_seen h1 hT hB2 (Nat.le_refl _)) (by rw [hlen]; exact ho3) hgr hat
            have HNX := Lib.hid hnext; have HR2 := Lib.hid (And.intro hik hj)
            have hj10 : j ≤ 10 := by omega
            have hlw : w4.heap.size ≤ wr.heap.size := HB.out.size
            clear hik hrt hT r hnext e1
            generalize tget ts i1 = t at *
            go_wp2_with (at_builtin; obtain ⟨xs, hown, hnx⟩ := HNX.out (.cells #[.int .u8 t.h.k, .int .i64 t.h.v, .slice q t.ks.length c'] 25); refine wpList_append_own_at _ rfl (.tmp 42) (.tmp 47) 23 rfl w4.heap.size 25 i0 _ 3 40 Tryd.underlying23 HI.out HZ0.out HZ1.out HZ2.out rfl (by decide) (.slice a j c0) j xs rfl hown ⟨wr.heap.size, 0, none⟩ 1 1 (tcells t.h q t.ks.length c') rfl rfl (new_cells' rfl) (cells_one' _ _ _ _) (by unfold maxLen; omega) (by omega) (by simp; omega) ?_; intro v' w5 hown5 hgrow5 _ hat5; obtain ⟨hr5, hb5⟩ := hnx v' w5 hown5 hgrow5 hat5; obtain ⟨a5, c5, rfl, -, -⟩ := own_slice hown5; have HR5 := Lib.hid hr5; have HB5 := Lib.hid hb5; clear hown5 hgrow5 hat5 hr5 hb5 hown hnx)
            go_roundw
            case rel => exact ⟨j + 1, i1, c5, a5, by omega, rfl, rfl, HR5, HB5⟩
            case measure => simp [intOf]
          | zero =>
            obtain rfl : l = j := by omega
            obtain ⟨w5, hw5⟩ : ∃ w5, w5 = wr := ⟨_, rfl⟩
            subst hw5
            have hrev : ts.reverse.take l = ts.reverse := List.take_of_length_le (by rw [List.length_reverse, HL.out]; exact Nat.le_refl _)
            have hrow := HR.out
            rw [hrev] at hrow
            have hlr : ts.reverse.length = l := by rw [List.length_reverse]; exact HL.out
            have hka : Kids (veil P w5) a ts.reverse := RowL.kids (c := c0) (B := w4.heap.size) (by rw [hlr]; exact hrow) fun b hb _ => HP.out.1 b (Nat.le_trans HT4.out.k.size hb)
            have hT5 := HT4.out.below HB.out
            have H5 := Lib.hid (H4.out.trans (HB.out.mono H4.out.size))
            have hp5 : ∀ b, w5.heap.size ≤ b → P b = true := fun b hb => HP.out.1 b (Nat.le_trans (Nat.le_trans HT4.out.k.size HB.out.size) hb)
            have hnv := few_nv HF.out
            have hnv2 := few_nv (few_rev HF.out)
            have hkp5 := (Kp.of_below (P := P) HB.out).kids HKP4.out
            have hjw := bjoin_walk ts p l d w5 hT5.a hp5 (hkp5.reads' (veil_reads _ _)) hkp5 HL.out (HKL.out.below H5.out) (by omega)
            have HJW := Lib.hid hjw; have HKA := Lib.hid (And.intro hka hlr); have HT5 := Lib.hid hT5; have HP5 := Lib.hid hp5; have HNV := Lib.hid (And.intro hnv hnv2)
            clear hrev hrow hlr hka hT5 hp5 hnv hnv2 hkp5 hjw HR HB HG HA HI HZ0 HZ1 HZ2 hj
            go_wp2_with (fail)
            refine HJW.out.mono ?_
            rintro e w6 h6
            obtain ⟨b1, rfl⟩ : ∃ b, e = .returned (.bool b) := by
              rcases h6.2 with ⟨h, _⟩ | ⟨h, _⟩
              · exact ⟨_, h⟩
              · exact ⟨_, h⟩
            have hk6 := HT5.out.a.kpP h6.1
            have h2 := HT5.out.a.other HT5.out.b h6.1 HD.out.1
            have H6 := Lib.hid (hk6.below_of H5.out (w0 := w) fun b hb => HP.out.2 b (Nat.lt_of_lt_of_le hb H1.out.size))
            have hjw := bjoin_walk ts.reverse a l c0 w6 h2 (fun b hb => HP5.out b (Nat.le_trans hk6.size hb)) ((hk6.kids HKA.out.1).reads' (veil_reads _ _)) (hk6.kids HKA.out.1) HKA.out.2 (HKL.out.below H6.out) (by have := HNV.out; omega)
            have HJW2 := Lib.hid hjw; have HE6 := Lib.hid h6; have HK6 := Lib.hid hk6; have HB26 := Lib.hid h2
            clear hjw h6 hk6 h2 HJW
            go_wp2_with (fail)
            refine HJW2.out.mono ?_
            rintro e w7 h7
            obtain ⟨b, S, σ, m, e1, e2, hB1, hB2, hm, -, -⟩ := bj_two HE6.out h7 fun t => List.mem_reverse.symm
            injection e1 with e1
            injection e1 with e1
            subst e1 e2
            have HT7 := Lib.hid (show Twin P k1 k2 w5 N S σ m w7 from ⟨HB26.out.other hB1 h7.1 HD.out.2, hB2, HK6.out.trans (HB26.out.kpP h7.1)⟩)
            have HM := Lib.hid (show m ≤ 2000 from by have := HNV.out; omega)
            have hbb : (b1 != b1) = false := by simp
            clear h7 hB1 hB2 hm HE6 HK6 HB26 HJW2
            go_wp2_with (fail)
            go_loopw [10] (fun i wr => ∃ j : Nat, j ≤ N ∧ i = .int .i64 j ∧ Hid (Twin P k1 k2 w5 N S σ m wr)) (fun i _ => N - (intOf i).toNat)
            case atStart => exact ⟨0, Nat.zero_le _, rfl, HT7⟩
            case round =>
              obtain ⟨j, hj, rfl, HT⟩ := hrel
              have HBW := Lib.hid (HT.out.k.below_of H5.out (w0 := w) fun b hb => HP.out.2 b (Nat.lt_of_lt_of_le hb H1.out.size))
              by_cases hlt : j < N
              · go_wp2_with (fail)
                refine (v_walk _ wr).mono ?_
                rintro e w8 ⟨rfl, hb8⟩
                have hT8 := HT.out.below hb8
                have hbw8 : Below w.heap.size w w8 := HBW.out.trans (hb8.mono HBW.out.size)
                have hsw := bsense_walk ⟨5, (j : Nat)⟩ none 0 0 (tyV j) 2000 w8 hT8.a (tyV_is _ (by omega)) (tyV_is _ (by omega)) (HKL.out.below hbw8) (by omega) (by have := HM.out; omega) (by rw [wt_tyV]; omega) (by omega)
                have HSW := Lib.hid hsw; have HT8 := Lib.hid hT8; have HBW8 := Lib.hid hbw8
                clear hb8 hT8 hsw hbw8
                go_wp2_with (fail)
                refine HSW.out.mono ?_
                rintro e w9 ⟨hB9, hk9, ⟨x0, x1⟩, q9, l9, c9, rfl, hx9⟩
                have hlow1 := HT8.out.a.low.2.2.2
                have hlow2 := HT8.out.b.low.2.2.2
                have hT9 : Twin P k1 k2 w5 N S σ m w9 := ⟨hB9, HT8.out.a.other HT8.out.b hk9 HD.out.1, HT8.out.k.trans (HT8.out.a.kpP hk9)⟩
                have HT9 := Lib.hid hT9; have HX9 := Lib.hid hx9; have HLOW := Lib.hid hlow2; have HLE9 := Lib.hid hk9.size
                clear hB9 hk9 hx9 hlow1 hlow2 hT9 HSW
                go_wp2_with (fail)
                refine (v_walk _ _).mono ?_
                rintro e w10 ⟨rfl, hb10⟩
                have hal := al_new (W := w9) (.cells #[.int .u8 x0, .int .i64 x1, .slice q9 l9 c9] 25)
                have hb9 : Below w9.heap.size w9 w10 := hal.trans (hb10.mono (by simp))
                have hxb := (hb10.block _ (by simp)).trans (heap_alloc_new w9 (.cells #[.int .u8 x0, .int .i64 x1, .slice q9 l9 c9] 25))
                have hT10 := HT9.out.below hb9
                have hbw10 : Below w.heap.size w w10 := hT10.k.below_of H5.out (w0 := w) fun b hb => HP.out.2 b (Nat.lt_of_lt_of_le hb H1.out.size)
                have hsw := bsense_walk ⟨5, (j : Nat)⟩ none 0 0 (tyV j) 2000 w10 hT10.b (tyV_is _ (by omega)) (tyV_is _ (by omega)) (HKL.out.below hbw10) (by omega) (by have := HM.out; omega) (by rw [wt_tyV]; omega) (by omega)
                have HSW := Lib.hid hsw; have HT10 := Lib.hid hT10; have HXB := Lib.hid hxb; have HX10 := Lib.hid (ty_bel HX9.out hb9); have HLE10 := Lib.hid hb9.size
                clear hb10 hb9 hal hT10 hsw hbw10 hxb HX9
                go_wp2_with (fail)
                refine HSW.out.mono ?_
                rintro e w11 ⟨hB11, hk11, ⟨y0, y1⟩, q11, l11, c11, rfl, hx11⟩
                have hT11 : Twin P k1 k2 w5 N S σ m w11 := ⟨HT10.out.b.other HT10.out.a hk11 HD.out.2, hB11, HT10.out.k.trans (HT10.out.b.kpP hk11)⟩
                have hxb := (hk11.block _ (lt_of_block HXB.out) (pk_true (by have := HLOW.out; have := HLE9.out; omega))).trans HXB.out
                have hx := ty_kp HX10.out hk11 HLOW.out
                have HT11 := Lib.hid hT11; have HX11 := Lib.hid (hx.reads' (veil_reads _ _)); have HY11 := Lib.hid (hx11.reads' (veil_reads _ _))
                obtain ⟨⟨g0, g1, g2⟩, -, gl⟩ := c3 hxb
                clear hB11 hk11 hT11 hxb hx hx11 HSW HXB HX10
                have hee : ((outE N σ (tyV j) 2000 : Int) != outE N σ (tyV j) 2000) = false := by simp
                generalize outE N σ (tyV j) 2000 = EE at *
                go_wp2_with (fail)
                have hal := al_new (W := w11) (.cells #[.int .u8 y0, .int .i64 y1, .slice q11 l11 c11] 25)
                refine (refSame_walk _ _ _ ⟨x0, x1⟩ ⟨y0, y1⟩ q9 q11 l9 c9 l11 c11 _ (Nat.le_refl _) (HX11.out.below hal) (HY11.out.below hal)).mono ?_
                rintro e w12 ⟨rfl, hb12⟩
                rw [same_self]
                have HT12 := Lib.hid (HT11.out.below (hal.trans (hb12.mono (by simp))))
                clear hal hb12 g0 g1 g2 gl
                go_wp2_with (fail)
                go_roundw
                case rel => exact ⟨j + 1, by omega, by go_num, HT12⟩
                case measure => simp [intOf]; omega
              · go_wp2_with (fail)
                refine (HAW.out _ HBW.out).mono ?_
                rintro e w8 ⟨rfl, hb8⟩
                have H8 := Lib.hid (HBW.out.trans (hb8.mono HBW.out.size))
                clear hb8
                go_wp2_with (fail)
                go_ret
                exact ⟨rfl, H8.out⟩
end Types
end Go.Proofs.YtjchplgapaeagaaDoor
