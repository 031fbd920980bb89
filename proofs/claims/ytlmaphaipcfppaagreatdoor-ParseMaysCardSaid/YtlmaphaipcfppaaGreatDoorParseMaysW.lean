/- The walk of layer 5's statement on what a text's term may be. -/
import Derived.Test.YtlmaphaipcfppaaGreatDoorGParseH
import Derived.Test.YtlmaphaipcfppaaGreatDoorParseNodes
import Derived.Test.YtlmaphaipcfppaaGreatDoorTermRefMay
import Derived.Test.YtlmaphaipcfppaaGreatDoorTokenRefLex
import Derived.LoopTactic
import Derived.IntWalk
import Derived.Deep.QuietTactic
import Derived.BigQuiet
namespace Go.Proofs.YtlmaphaipcfppaaGreatDoor
open Go.RowKit
set_option linter.unusedVariables false
set_option linter.unusedSimpArgs false
namespace Parse
open Token (Tok tel ToksAt BytesIn LexEnd lex endT)
open Term (Tm Hd TmIs Kids ret_bool ret_i64 Reads veil Flat tcells tget wt flatT mayT okT)

/-- An error has a number. -/
theorem res_bad {xs : List Int} {a k : Int} (hx : xs.length ≤ 4000) (h : termRes xs = .bad a k) : k = 2 := by
  unfold termRes at h
  rw [if_neg (by omega)] at h
  cases hl : lex xs 0 with
  | inl j => rw [hl] at h; injection h with _ h; exact h.symm
  | inr ts =>
    rw [hl] at h
    have h' : toksRes ts xs.length = .bad a k := h
    have hlen := Token.lex_len hl
    unfold toksRes at h'
    rw [if_neg (by omega)] at h'
    obtain ⟨r, hr⟩ := enough0 (good_of_lex hl).row
    rw [hr] at h'
    unfold resOf at h'
    simp only at h'
    split at h'
    · cases h'
    · injection h' with _ h'; exact h'.symm
/-- What a text's term is made of. -/
theorem res_good {xs : List Int} {t : Tm} (hx : xs.length ≤ 4000) (h : termRes xs = .good t) : ∃ ts, lex xs 0 = .inr ts ∧ ts.length ≤ xs.length ∧ okT t = true ∧ PlT (ts ++ [endT xs.length]) t ∧ wt t + 1 ≤ 2 * ts.length := by
  unfold termRes at h
  rw [if_neg (by omega)] at h
  cases hl : lex xs 0 with
  | inl j => rw [hl] at h; cases h
  | inr ts =>
    rw [hl] at h
    have h' : toksRes ts xs.length = .good t := h
    have hlen := Token.lex_len hl
    unfold toksRes at h'
    rw [if_neg (by omega)] at h'
    have hG := good_of_lex hl
    obtain ⟨r, hr⟩ := enough0 hG.row
    rw [hr] at h'
    unfold resOf at h'
    simp only at h'
    split at h'
    · rename_i hc
      injection h' with h'
      subst h'
      have hT : 0 < (ts ++ [endT xs.length]).length := by simp
      obtain ⟨n1, n2, n3, n4, n5⟩ := (nodes_all hG (fuelOf (ts ++ [endT xs.length]))).1 ⟨0, false⟩ r hT hr hc.1
      have hlt := (lt_all _ hG.row _).1 ⟨0, false⟩ r hT hr
      rw [List.length_append, List.length_singleton] at hlt
      refine ⟨ts, rfl, hlen, n3, n4, ?_⟩
      have n5' : wt r.2 + 1 + 2 * 0 ≤ 2 * r.1.i := n5
      omega
    · cases h'

/-- Was one of the first j tokens met at a place? -/
def metB (T : List Tok) (pl : Int) (j : Nat) : Bool := (T.take j).any fun u => decide ((u.a : Int) = pl) && decide (u.k ≠ 6)
theorem metB_zero (T : List Tok) (pl : Int) : metB T pl 0 = false := by unfold metB; rw [List.take_zero]; rfl
theorem metB_step {T : List Tok} {pl : Int} {j : Nat} (hj : j < T.length) : metB T pl (j + 1) = (metB T pl j || (decide (((tel T j).a : Int) = pl) && decide ((tel T j).k ≠ 6))) := by
  unfold metB
  have : T.take (j + 1) = T.take j ++ [tel T j] := by
    rw [List.take_add_one]
    unfold tel
    rw [List.getD_eq_getElem?_getD, List.getElem?_eq_getElem hj]
    rfl
  rw [this, List.any_append]
  simp
theorem metB_all {T : List Tok} {pl : Int} (h : Pl T pl) : metB T pl T.length = true := by
  obtain ⟨j, hj, hk, e⟩ := h
  unfold metB
  rw [List.take_length, List.any_eq_true]
  refine ⟨tel T j, tel_mem hj, ?_⟩
  rw [decide_eq_true (show ((tel T j).a : Int) = pl from e.symm), decide_eq_true hk]
  rfl
set_option maxRecDepth 100000 in
set_option maxHeartbeats 12800000 in
theorem parseMays_walk (p : Option Addr) (n d : Nat) (xs : List Int) (w : World) (hb : BytesIn w p n d xs) (hl : Words.Laid2 w) :
    Calls Tryz.prog 4 #[.slice p n d] w fun e w' => e = .returned (.bool true) ∧ Below w.heap.size w w' := by
  have hnl := hb.len.1
  have hxn := hb.1
  have HB := Lib.hid hb; have HL := Lib.hid hl; have HXN := Lib.hid hxn
  clear hb hl hxn
  by_cases hbig : 2000 < n
  · have hbi : (2000 : Int) < (n : Int) := by omega
    go_enter Tryz.func4, Tryz.ntmps4
    go_wp2_with (fail)
    refine (awake_walk _ HL.out).mono ?_
    rintro e w1 ⟨rfl, hb⟩
    have HB1 := Lib.hid hb; clear hb
    go_wp2
    go_ret
    exact ⟨rfl, HB1.out⟩
  have hpt := parseTerm_walk p n d xs w HB.out HL.out (by rw [HXN.out]; omega)
  have HPT := Lib.hid hpt
  have hbi : ¬ (2000 : Int) < (n : Int) := by omega
  have HBI := Lib.hid hbig
  clear hpt hbig
  go_enter Tryz.func4, Tryz.ntmps4
  go_wp2_with (fail)
  refine HPT.out.mono ?_
  rintro e w1 ⟨hb1, (⟨a, k, hres, rfl⟩ | ⟨t, h, q, l, c, hres, rfl, hT⟩)⟩
  · obtain rfl := res_bad (by rw [HXN.out]; have := HBI.out; omega) hres
    have HB1 := Lib.hid hb1
    clear hb1 hres
    go_wp2_with (fail)
    refine (awake_walk _ ?_).mono ?_
    · exact HL.out.below (HB1.out.alloc HB1.out.size _)
    rintro e w2 ⟨rfl, hb2⟩
    have HB2 := Lib.hid (Term.below_then (HB1.out.alloc HB1.out.size _) hb2 (by have := HB1.out.size; simp; omega)); clear hb2
    go_wp2_with (fail)
    go_ret
    exact ⟨rfl, HB2.out⟩
  · obtain ⟨ts, hlx, hlen, hok, hpl, hwt⟩ := res_good (by rw [HXN.out]; have := HBI.out; omega) hres
    have hlr := fun W (hb : Below w1.heap.size w1 W) => Token.refLex_walk p n d xs W ((HB.out.below hb1).below hb)
    have hT1 := hT.reads' (Term.veil_reads _ _)
    have hwt2 : wt t ≤ 4000 := by rw [HXN.out] at hlen; have := HBI.out; omega
    have hal := fun W (hb : Below w1.heap.size w1 W) => Term.refAll_walk (wt t) t h q l c w1 W (Nat.le_refl _) (by omega) hT1 hb
    have hmy := fun W (hb : Below w1.heap.size w1 W) => Term.refMay_walk t h q l c W (hT1.below hb) hwt2
    have hmt : mayT t = true := by unfold mayT; rw [hok, decide_eq_true hwt2]; rfl
    rw [hmt] at hmy
    have HB1 := Lib.hid hb1; have HLR := Lib.hid hlr; have HAL := Lib.hid hal; have HMY := Lib.hid hmy; have HPL := Lib.hid hpl; have HLX := Lib.hid hlx; have HT1 := Lib.hid hT1; have HLEN := Lib.hid hlen; have HWT := Lib.hid hwt2
    clear hb1 hlr hT1 hwt2 hal hmy hmt hpl hlx hlen hok hwt hT hres
    go_wp2_with (fail)
    refine (HLR.out _ ?_).mono ?_
    · first | exact Below.refl _ _ | exact (Below.refl _ _).alloc (Nat.le_refl _) _
    rintro e w2 ⟨hb2, (⟨h1, _⟩ | ⟨_, q1, c1, k1, hk, rfl⟩ | ⟨_, ts', g, c1, hk, rfl, ht, hcn, hcm⟩)⟩
    · exfalso; rw [HXN.out] at h1; have := HBI.out; omega
    · rw [HLX.out] at hk; cases hk
    rw [HLX.out] at hk
    obtain rfl : ts = ts' := by injection hk
    obtain ⟨htb, hbw⟩ := one_box hb2
    obtain ⟨⟨t0, t1, t2, t3, t4, t5, t6, t7⟩, u0, u1, u2, u3, u4, u5, u6, u7⟩ := cells8' htb
    have tl := lt_of_block htb
    have HB2 := Lib.hid hbw; have HTK := Lib.hid ht; have HTB := Lib.hid htb; have HC1 := Lib.hid (And.intro hcn hcm)
    clear hb2 hbw hk ht htb hcn hcm
    go_wp2_with (fail)
    refine (HAL.out _ ?_).mono ?_
    · exact HB2.out
    rintro e w3 ⟨g3, c3, ys, rfl, hown, hfl, hb3⟩
    have hall : ∀ j, j < wt t → w3.cell? ⟨g3, j * 8 + 2, none⟩ = some (.int .i64 (tget (flatT t) j).h.pl) ∧ Pl (ts ++ [endT xs.length]) (tget (flatT t) j).h.pl := by
      intro j hj
      have hj' : j < (flatT t).length := by rw [Term.flatT_len]; exact hj
      obtain ⟨q', c', _, hc⟩ := hfl.get j hj'
      exact ⟨Term.row_cell hown (hc 2 _ rfl), HPL.out _ (Term.tget_mem hj')⟩
    have HALL := Lib.hid hall
    have HB3 := Lib.hid hb3
    have htk3 := HTK.out.below hb3
    have HTK3 := Lib.hid htk3
    have hTl : (ts ++ [endT xs.length]).length = ts.length + 1 := by simp
    have HTL := Lib.hid hTl
    have hwi : (wt t : Int) ≤ 4000 := by have := HWT.out; omega
    have hti : (ts.length : Int) ≤ 2000 := by have := HLEN.out; have := HXN.out; have := HBI.out; omega
    clear hown hfl hb3 hall htk3 hTl t0 t1 t2 t3 t4 t5 t6 t7 u0 u1 u2 u3 u4 u5 u6 u7 tl
    go_wp2_with (fail)
    go_loopw [10] (fun i wr => ∃ k : Nat, k ≤ wt t ∧ i = .int .i64 k ∧ Below w3.heap.size w3 wr) (fun i _ => wt t - (intOf i).toNat)
    case atStart => exact ⟨0, Nat.zero_le _, rfl, Below.refl _ _⟩
    case round =>
      obtain ⟨k, hk, rfl, hw⟩ := hrel
      have HW := Lib.hid hw
      clear hw
      by_cases hlt : k < wt t
      · obtain ⟨cp, hplk⟩ := HALL.out k hlt
        have HCP := Lib.hid cp; have HPK := Lib.hid hplk; have HLT := Lib.hid hlt
        generalize (tget (flatT t) k).h.pl = pl at *
        clear cp hplk
        go_wp2_with (fail)
        go_loopw [11, 12] (fun m i wr2 => ∃ j : Nat, j ≤ ts.length + 1 ∧ i = .int .i64 j ∧ m = .bool (metB (ts ++ [endT xs.length]) pl j) ∧ Below w3.heap.size w3 wr2) (fun _ i _ => ts.length + 1 - (intOf i).toNat)
        case atStart => exact ⟨0, Nat.zero_le _, rfl, by rw [metB_zero], HW.out⟩
        case round =>
          obtain ⟨j, hj, rfl, rfl, hw2⟩ := hrel
          have HW2 := Lib.hid hw2
          by_cases hjl : j < ts.length + 1
          · obtain ⟨k0, k1, k2⟩ := (HTK3.out.below hw2) j (by rw [HTL.out]; exact hjl)
            have cpl := (hw2.cell (p := ⟨g3, k * 8 + 2, none⟩) (World.block_lt_of_cell? w3 _ HCP.out)).trans HCP.out
            have hstep := metB_step (T := ts ++ [endT xs.length]) (pl := pl) (j := j) (by rw [HTL.out]; exact hjl)
            have HST := Lib.hid hstep
            clear hw2 hstep
            have hji : (j : Int) < (ts.length : Int) + 1 := by omega
            have hj0 : (0 : Int) ≤ (j : Int) := by omega
            have hki : (k : Int) < (wt t : Int) := by have := HLT.out; omega
            have hk0 : (0 : Int) ≤ (k : Int) := by omega
            have hjn : (j : Int) + 1 ≤ 4001 := by omega
            have gl := World.block_lt_of_cell? wr _ k0
            cases hm : metB (ts ++ [endT xs.length]) pl j
            · by_cases ha : ((tel (ts ++ [endT xs.length]) j).a : Int) = pl
              · have b1 : (((tel (ts ++ [endT xs.length]) j).a : Int) == pl) = true := by simpa using ha
                by_cases h6 : (tel (ts ++ [endT xs.length]) j).k = 6
                · have b2 : ((tel (ts ++ [endT xs.length]) j).k != 6) = false := by simpa using h6
                  have hf : metB (ts ++ [endT xs.length]) pl (j + 1) = false := by rw [HST.out, hm, decide_eq_true ha, decide_eq_false (by simpa using h6)]; rfl
                  have HF := Lib.hid hf; have HA := Lib.hid (And.intro ha h6)
                  clear hf ha h6
                  go_wp2_with (fail)
                  go_quiet (fail)
                  go_wp2_with (fail)
                  go_roundw
                  case rel => exact ⟨j + 1, by omega, by go_num, by rw [HF.out], Chars.below_draws HW2.out _⟩
                  case measure => simp [intOf]; omega
                · have b2 : ((tel (ts ++ [endT xs.length]) j).k != 6) = true := by simpa using h6
                  have hf : metB (ts ++ [endT xs.length]) pl (j + 1) = true := by rw [HST.out, hm, decide_eq_true ha, decide_eq_true (by simpa using h6)]; rfl
                  have HF := Lib.hid hf; have HA := Lib.hid (And.intro ha h6)
                  clear hf ha h6
                  go_wp2_with (fail)
                  go_quiet (fail)
                  go_wp2_with (fail)
                  go_roundw
                  case rel => exact ⟨j + 1, by omega, by go_num, by rw [HF.out], Chars.below_draws HW2.out _⟩
                  case measure => simp [intOf]; omega
              · have b1 : (((tel (ts ++ [endT xs.length]) j).a : Int) == pl) = false := by simpa using ha
                have hf : metB (ts ++ [endT xs.length]) pl (j + 1) = false := by rw [HST.out, hm, decide_eq_false ha]; rfl
                have HF := Lib.hid hf; have HA := Lib.hid ha
                clear hf ha
                go_wp2_with (fail)
                go_quiet (fail)
                go_wp2_with (fail)
                go_roundw
                case rel => exact ⟨j + 1, by omega, by go_num, by rw [HF.out], Chars.below_draws HW2.out _⟩
                case measure => simp [intOf]; omega
            · have hf : metB (ts ++ [endT xs.length]) pl (j + 1) = true := by rw [HST.out, hm]; rfl
              have HF := Lib.hid hf
              clear hf
              go_wp2_with (fail)
              go_quiet (fail)
              go_wp2_with (fail)
              go_roundw
              case rel => exact ⟨j + 1, by omega, by go_num, by rw [HF.out], Chars.below_draws HW2.out _⟩
              case measure => simp [intOf]; omega
          · obtain rfl : j = ts.length + 1 := by omega
            have hm : metB (ts ++ [endT xs.length]) pl (ts.length + 1) = true := by rw [← HTL.out]; exact metB_all HPK.out
            have hnj : ¬ ((ts.length + 1 : Nat) : Int) < (ts.length : Int) + 1 := by omega
            have hjn : (k : Int) + 1 ≤ 4001 := by have := HLT.out; omega
            have hk0 : (0 : Int) ≤ (k : Int) := by omega
            have HM := Lib.hid hm
            clear hw2
            go_wp2_with (fail)
            go_roundw
            case rel => exact ⟨k + 1, by have := HLT.out; omega, by go_num, HW2.out⟩
            case measure => have := HLT.out; simp [intOf]; omega
      · obtain rfl : k = wt t := by omega
        have hb12 := HB2.out.trans (HB3.out.mono HB2.out.size)
        have hb1r := hb12.trans (HW.out.mono hb12.size)
        have htb := (HW.out.block _ (Nat.lt_of_lt_of_le (lt_of_block HTB.out) HB3.out.size)).trans ((HB3.out.block _ (lt_of_block HTB.out)).trans HTB.out)
        obtain ⟨⟨t0, t1, t2, t3, t4, t5, t6, t7⟩, u0, u1, u2', u3, u4, u5, u6, u7⟩ := cells8' htb
        have tl := lt_of_block htb
        have hmy := HMY.out wr hb1r
        have HM := Lib.hid hmy; have HBR := Lib.hid hb1r
        clear hb12 hb1r htb hmy
        go_wp2_with (fail)
        refine HM.out.mono ?_
        rintro e w4 ⟨rfl, hb4⟩
        have HB4 := Lib.hid (HBR.out.trans (hb4.mono HBR.out.size))
        clear hb4 t0 t1 t2 t3 t4 t5 t6 t7 u0 u1 u2' u3 u4 u5 u6 u7 tl
        go_wp2_with (fail)
        refine (awake_walk _ (HL.out.below (HB1.out.trans (HB4.out.mono HB1.out.size)))).mono ?_
        rintro e w5 ⟨rfl, hb5⟩
        have HB5 := Lib.hid (Term.below_then (HB1.out.trans (HB4.out.mono HB1.out.size)) hb5 (Nat.le_trans HB1.out.size HB4.out.size))
        clear hb5
        go_wp2_with (fail)
        go_ret
        exact ⟨rfl, HB5.out⟩
end Parse
end Go.Proofs.YtlmaphaipcfppaaGreatDoor
