/- The walk of layer 7's statement on names and exceptions. -/
import Derived.Test.YtkcadkjpneoobaaDoorScopeRx
import Derived.Test.YtkcadkjpneoobaaDoorScopeK
import Derived.Test.YtkcadkjpneoobaaDoorGTermD
import Derived.Test.YtkcadkjpneoobaaDoorGTermE
namespace Go.Proofs.YtkcadkjpneoobaaDoor
open Go.RowKit
set_option linter.unusedVariables false
set_option linter.unusedSimpArgs false
namespace Scope
open Term (Tm Hd TmIs ret_bool ret_i64 tget wt wts wts_cons wts_nil greatB drop_tget)
open Words (str_no str_yes sel StrsAt)

theorem wts_le : ∀ (ts : List Tm), (∀ i, i < ts.length → wt (tget ts i) ≤ 400) → wts ts ≤ 400 * ts.length
  | [], _ => by rw [wts_nil]; simp
  | t :: ts, h => by
    have h0 := h 0 (by simp)
    have h1 := wts_le ts (fun i hi => h (i + 1) (by simpa using hi))
    have h2 : wt t ≤ 400 := h0
    rw [wts_cons, List.length_cons]
    omega
theorem exnQ2_walk (ts : List Tm) (p : Option Addr) (l d : Nat) (w : World) (hk : Term.Kids w p ts) (hl : ts.length = l) (hlm : l ≤ maxLen) (hw : wts ts ≤ 40000) (hkw : Words.KwLaid w) :
    Calls Tryd.prog 16 #[.slice p l d] w (MetEnd (metF exnQ ts) w) := scopeExn_walk ts p l d w hk hl hlm hw hkw
set_option maxRecDepth 100000 in
set_option maxHeartbeats 25600000 in
theorem scopeNames_walk (p : Option Addr) (l d : Nat) (ts : List Tm) (w : World) (hT : Term.IsTms w p l d ts) (hkw : Words.KwLaid w) :
    Calls Tryd.prog 4 #[.slice p l d] w fun e w' => e = .returned (.bool true) ∧ Below w.heap.size w w' := by
  obtain ⟨hl, hld, hdm, hk⟩ := hT
  have hlm : l ≤ maxLen := by omega
  unfold maxLen at hdm
  have haw := fun W (hb : Below w.heap.size w W) => awake_walk W (hkw.below hb)
  have hgr := fun (j : Nat) h q l' c W (hT : TmIs W h q l' c (tget ts j)) => Term.great_walk (tget ts j) h q l' c W hT
  have HAW := Lib.hid haw; have HGR := Lib.hid hgr; have HK := Lib.hid hk; have HL := Lib.hid hl; have HKW := Lib.hid hkw; have HLM := Lib.hid hlm
  clear haw hgr hk hl hkw
  have hl63 : l ≤ 9223372036854775807 := by omega
  clear hlm hdm hld
  go_enter Tryd.func4, Tryd.ntmps4
  by_cases h20 : 20 < l
  · have hi : (20 : Int) < (l : Int) := by omega
    go_wp2_with (fail)
    refine (HAW.out _ (Below.refl _ _)).mono ?_
    rintro e w1 ⟨rfl, hb1⟩
    have HB := Lib.hid hb1
    clear hb1
    go_wp2_with (fail)
    go_ret
    exact ⟨rfl, HB.out⟩
  have hi : ¬ (20 : Int) < (l : Int) := by omega
  go_wp2_with (fail)
  go_loopw [3] (fun i wr => ∃ j : Nat, j ≤ l ∧ i = .int .i64 j ∧ Hid (Below w.heap.size w wr) ∧ Hid (∀ i, i < j → wt (tget ts i) ≤ 400)) (fun i _ => l - (intOf i).toNat)
  case atStart => exact ⟨0, Nat.zero_le _, rfl, Lib.hid (Below.refl _ _), Lib.hid fun i hi => by omega⟩
  case round =>
    obtain ⟨j, hj, rfl, HB, HJ⟩ := hrel
    by_cases hlt : j < l
    · have hjk : j < ts.length := by rw [HL.out]; exact hlt
      obtain ⟨b, o, q, c, rfl, hkid, c0, c1, c2, c3, c4, c5, c6, c7⟩ := (HK.out.stay HB.out).get j hjk
      have hmm := HGR.out j _ _ _ _ wr hkid
      have HM := Lib.hid hmm; have HJK := Lib.hid hjk
      clear hmm hkid hjk
      go_wp2_with (fail)
      refine HM.out.mono ?_
      rintro e w1 ⟨rfl, hb1⟩
      have HB0 := Lib.hid (HB.out.trans (hb1.mono HB.out.size))
      clear c0 c1 c2 c3 c4 c5 c6 c7 hb1
      cases hg : greatB (tget ts j)
      · have hn : ∀ i, i < j + 1 → wt (tget ts i) ≤ 400 := fun i hi => by
          rcases Nat.lt_succ_iff_lt_or_eq.1 hi with h | h
          · exact HJ.out i h
          · subst h; exact (Term.small_of hg).1
        have HN := Lib.hid hn
        clear hn hg
        go_wp2_with (fail)
        go_roundw
        case rel => exact ⟨j + 1, by omega, by go_num, HB0, HN⟩
        case measure => simp [intOf]; omega
      · clear hg
        go_wp2_with (fail)
        refine (HAW.out _ HB0.out).mono ?_
        rintro e w2 ⟨rfl, hb2⟩
        have HB2 := Lib.hid (HB0.out.trans (hb2.mono HB0.out.size))
        clear hb2
        go_wp2_with (fail)
        go_ret
        exact ⟨rfl, HB2.out⟩
    · obtain rfl : j = l := by omega
      have hw : wts ts ≤ 40000 := by
        have := wts_le ts (fun i hi => HJ.out i (by rw [← HL.out]; exact hi))
        rw [HL.out] at this
        omega
      have hsm : ∀ i, i < j → wt (tget ts i) ≤ 4000 := fun i hi => by have := HJ.out i hi; omega
      have hf1 := fun W (hb : Below w.heap.size w W) => scopeFree_walk ts p j d W (HK.out.stay hb) HL.out HLM.out hw (HKW.out.below hb)
      have hf2 := fun W (hb : Below w.heap.size w W) => freesD_walk ts p j d W (HK.out.stay hb) HL.out HLM.out hw hsm
      have hx1 := fun W (hb : Below w.heap.size w W) => exnQ2_walk ts p j d W (HK.out.stay hb) HL.out HLM.out hw (HKW.out.below hb)
      have hx2 := fun W (hb : Below w.heap.size w W) => exnsD_walk ts p j d W (HK.out.stay hb) HL.out HLM.out hw hsm
      have HF1 := Lib.hid hf1; have HF2 := Lib.hid hf2; have HX1 := Lib.hid hx1; have HX2 := Lib.hid hx2
      clear hw hsm hf1 hf2 hx1 hx2
      go_wp2_with (fail)
      refine (HF1.out _ HB.out).mono ?_
      rintro e w1 ⟨v1, rfl, hn1, hb1⟩
      have HB1 := Lib.hid (HB.out.trans (hb1.mono HB.out.size)); have HN1 := Lib.hid hn1
      clear hn1 hb1
      go_wp2_with (fail)
      refine (HF2.out _ HB1.out).mono ?_
      rintro e w2 ⟨v2, rfl, hn2, hb2⟩
      have hsm := rd_same (HN1.out.later hb2).rd hn2
      rw [decide_eq_true rfl] at hsm
      have HB2 := Lib.hid (HB1.out.trans (hb2.mono HB1.out.size)); have HS := Lib.hid hsm
      clear hn2 hb2 hsm HN1
      go_wp2_with (fail)
      refine HS.out.mono ?_
      rintro e w3 ⟨rfl, hb3⟩
      have HB3 := Lib.hid (HB2.out.trans (hb3.mono HB2.out.size))
      clear hb3
      go_wp2_with (fail)
      refine (HX1.out _ HB3.out).mono ?_
      rintro e w4 ⟨v4, rfl, hn4, hb4⟩
      have HB4 := Lib.hid (HB3.out.trans (hb4.mono HB3.out.size)); have HN4 := Lib.hid hn4
      clear hn4 hb4
      go_wp2_with (fail)
      refine (HX2.out _ HB4.out).mono ?_
      rintro e w5 ⟨v5, rfl, hn5, hb5⟩
      have hsm := rd_same (HN4.out.later hb5).rd hn5
      rw [decide_eq_true rfl] at hsm
      have HB5 := Lib.hid (HB4.out.trans (hb5.mono HB4.out.size)); have HS2 := Lib.hid hsm
      clear hn5 hb5 hsm HN4
      go_wp2_with (fail)
      refine HS2.out.mono ?_
      rintro e w6 ⟨rfl, hb6⟩
      have HB6 := Lib.hid (HB5.out.trans (hb6.mono HB5.out.size))
      clear hb6
      go_wp2_with (fail)
      refine (HAW.out _ HB6.out).mono ?_
      rintro e w7 ⟨rfl, hb7⟩
      have HB7 := Lib.hid (HB6.out.trans (hb7.mono HB6.out.size))
      clear hb7
      go_wp2_with (fail)
      go_ret
      exact ⟨rfl, HB7.out⟩
end Scope
end Go.Proofs.YtkcadkjpneoobaaDoor
