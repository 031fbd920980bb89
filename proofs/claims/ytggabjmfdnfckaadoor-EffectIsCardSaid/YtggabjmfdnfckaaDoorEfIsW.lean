/- The walk of EffectIs. -/
import Derived.Test.YtggabjmfdnfckaaDoorEfRText
import Derived.Test.YtggabjmfdnfckaaDoorEfView
namespace Go.Proofs.YtggabjmfdnfckaaDoor
open Go.RowKit
set_option linter.unusedVariables false
set_option linter.unusedSimpArgs false
namespace Effect

theorem sh_of {l : List At} (h : ∀ x ∈ l, x.r ≤ 9223372036854775807 ∧ x.x.size ≤ 1000) : ∀ x ∈ ofA l, Sh x := fun x hx => by
  obtain ⟨h1, h2⟩ := (mem_of l x).1 hx
  obtain ⟨h3, h4⟩ := h x h1
  refine ⟨?_, h3, h4⟩
  unfold atomB at h2
  split at h2
  · simp at h2; omega
  · simp at h2; omega
set_option maxRecDepth 100000 in
set_option maxHeartbeats 12800000 in
theorem effectIs_walk (a : Option Addr) (n c : Nat) (l : List At) (w : World) (h : Rd w n a l) (hr : ∀ x ∈ l, x.r ≤ 9223372036854775807) (hn : n ≤ maxLen) (hl : NumLaid w) : Calls Tryd.prog 3 #[.slice a n c] w fun e w' => e = .returned (.bool true) ∧ Below w.heap.size w w' := by
  have H := Lib.hid h; have HL := Lib.hid hl; have HRR := Lib.hid hr
  have HG1 := Lib.hid (great_walk (c := c) h hn)
  have HAW := Lib.hid (awake_walk w hl)
  clear h hl hr
  cases hg1 : greatB l with
  | true =>
    rw [hg1] at HG1
    clear hg1
    go_enter Tryd.func3, Tryd.ntmps3
    go_wp2_with (fail)
    refine HG1.out.mono ?_
    rintro e w1 ⟨rfl, rfl⟩
    go_wp2_with (fail)
    refine HAW.out.mono ?_
    rintro e w2 ⟨rfl, hb2⟩
    have HB2 := Lib.hid hb2
    clear hb2
    go_wp2_with (fail)
    go_ret
    exact ⟨rfl, HB2.out⟩
  | false =>
    have hn100 : n ≤ 100 := by have := (great_no hg1).1; rw [H.out.len] at this; exact this
    have HSH := Lib.hid (sh_of fun x hx => ⟨HRR.out x hx, by have := (great_no hg1).2 x hx; omega⟩)
    rw [hg1] at HG1
    clear hg1 hn
    obtain ⟨a1, c1, w1, hrun, hrow, hg1⟩ := append_row (c := c) (row_new (Nat.le_refl w.heap.size)) rfl H.out.len.symm (H.out.at_.below (al_new _)) (by omega) (al_new (W := w) (.cells #[] 27)).size
    rw [Nat.zero_add] at hrun hrow
    have hB1 : Below w.heap.size w w1 := (al_new (W := w) (.cells #[] 27)).grown hg1 (al_new (W := w) _).size fun g hg => by have e : w.heap.size = g := Option.some.inj hg; omega
    have HRUN := Lib.hid hrun; have HOWN := Lib.hid (Rd.of_row hrow (by rw [List.nil_append]; exact H.out.ok)); have HB1 := Lib.hid hB1
    rw [List.nil_append] at HOWN
    clear hrun hrow hg1 hB1
    go_enter Tryd.func3, Tryd.ntmps3
    go_wp2_with (fail)
    refine HG1.out.mono ?_
    rintro e w0 ⟨rfl, rfl⟩
    go_wp2_with (at_builtin; refine wpList_append_made rfl (.tmp 10) (.tmp 11) 22 22 rfl (.slice (some ⟨_, 0, none⟩) 0 0) (.slice a n c) _ rfl rfl HRUN.out ?_)
    go_loopw [4, 5] (fun at_ i wr => ∃ (j : Nat) (p : Bool), j ≤ n ∧ i = .int .i64 (j : Int) ∧ at_ = .bool p ∧ Hid (p = (l.take j).all atomB) ∧ Hid (Below w1.heap.size w1 wr)) (fun _ i _ => n - (intOf i).toNat)
    case atStart => exact ⟨0, true, Nat.zero_le _, rfl, rfl, Lib.hid (by simp), Lib.hid (Below.refl _ _)⟩
    case round =>
      obtain ⟨j, p, hj, rfl, rfl, HP, HS⟩ := hrel
      have HBB := Lib.hid (below_then HB1.out HS.out HB1.out.size)
      by_cases hlt : j < n
      · have hjl : j < l.length := by rw [H.out.len]; exact hlt
        obtain ⟨b, o, rfl, e0, e1, e2⟩ := (H.out.below HBB.out).at_.get j hjl
        have hx := H.out.ok _ (aget_mem hjl)
        have htk := at_take l j hjl
        generalize aget l j = x at *
        have HTK := Lib.hid htk
        have HAT := Lib.hid (refAtom_walk x wr hx)
        clear htk hjl hx
        cases p
        · go_wp2_with (fail)
          go_roundw
          case rel => exact ⟨j + 1, false, by omega, by go_num, rfl, Lib.hid (by rw [HTK.out, List.all_append, ← HP.out]; rfl), HS⟩
          case measure => simp [intOf]; omega
        · go_wp2_with (fail)
          refine HAT.out.mono ?_
          rintro e w3 ⟨rfl, hb3⟩
          have HS3 := Lib.hid (below_then HS.out hb3 HS.out.size)
          clear hb3 e0 e1 e2
          go_wp2_with (fail)
          go_roundw
          case rel => exact ⟨j + 1, atomB x, by omega, by go_num, rfl, Lib.hid (by rw [HTK.out, List.all_append, ← HP.out]; simp), HS3⟩
          case measure => simp [intOf]; omega
      · obtain rfl : j = n := by omega
        have hp := HP.out
        rw [List.take_of_length_le (by rw [H.out.len]; exact Nat.le_refl _)] at hp
        have HPP := Lib.hid hp
        clear hp HP
        have HO := Lib.hid (ofR (c := c1) (HOWN.out.below HS.out) (by omega))
        go_wp2_with (fail)
        refine HO.out.mono ?_
        rintro e w4 ⟨a4, m4, c4, rfl, hm4, -, hr4, hb4⟩
        have HR4 := Lib.hid hr4; have HS4 := Lib.hid (below_then HS.out hb4 HS.out.size)
        have HBB4 := Lib.hid (below_then HB1.out HS4.out HB1.out.size)
        have HE := Lib.hid (refEqual_walk (c := c1) (d := c) (HOWN.out.below HS4.out) (H.out.below HBB4.out) (by omega) (by omega))
        rw [decide_eq_true rfl] at HE
        clear hr4 hb4
        go_wp2_with (fail)
        refine HE.out.mono ?_
        rintro e w5 ⟨rfl, hb5⟩
        have HR5 := Lib.hid (HR4.out.below hb5); have HS5 := Lib.hid (below_then HS4.out hb5 HS4.out.size)
        have HA := Lib.hid (atom_walk (c := c1) (HOWN.out.below HS5.out) (by omega))
        rw [← HPP.out] at HA
        have hpp : (p == p) = true := by cases p <;> rfl
        have hpn : (p != p) = false := by cases p <;> rfl
        clear hb5
        go_wp2_with (fail)
        refine HA.out.mono ?_
        rintro e w6 ⟨rfl, hb6⟩
        have HR6 := Lib.hid (HR5.out.below hb6); have HS6 := Lib.hid (below_then HS5.out hb6 HS5.out.size)
        have HM := Lib.hid (may_walk (c := c1) (HOWN.out.below HS6.out) (by omega))
        generalize hmm : decide (l = ofA l) = mm at *
        have hmp : (mm == mm) = true := by cases mm <;> rfl
        have hmn : (mm != mm) = false := by cases mm <;> rfl
        clear hb6
        have HMM := Lib.hid hmm
        clear hmm
        go_wp2_with (fail)
        refine HM.out.mono ?_
        rintro e w7 ⟨rfl, hb7⟩
        have HR7 := Lib.hid (HR6.out.below hb7); have HS7 := Lib.hid (below_then HS6.out hb7 HS6.out.size)
        have HBB7 := Lib.hid (below_then HB1.out HS7.out HB1.out.size)
        have HRM := Lib.hid (refMay_walk (c := c) (H.out.below HBB7.out) (by omega))
        rw [HMM.out] at HRM
        clear hb7
        go_wp2_with (fail)
        refine HRM.out.mono ?_
        rintro e w8 ⟨rfl, hb8⟩
        have HR8 := Lib.hid (HR7.out.below hb8); have HS8 := Lib.hid (below_then HS7.out hb8 HS7.out.size)
        have HBB8 := Lib.hid (below_then HB1.out HS8.out HB1.out.size)
        have HRO := Lib.hid (refOf_walk (c := c) (H.out.below HBB8.out) (by omega))
        clear hb8
        go_wp2_with (fail)
        refine HRO.out.mono ?_
        rintro e w9 ⟨a9, m9, c9, rfl, hm9, -, hr9, hb9⟩
        have HR9 := Lib.hid (HR8.out.below hb9); have HS9 := Lib.hid (below_then HS8.out hb9 HS8.out.size)
        have HE2 := Lib.hid (refEqual_walk (c := c4) (d := c9) HR9.out hr9 (by omega) (by omega))
        rw [decide_eq_true rfl] at HE2
        clear hr9 hb9
        go_wp2_with (fail)
        refine HE2.out.mono ?_
        rintro e w10 ⟨rfl, hb10⟩
        have HR10 := Lib.hid (HR9.out.below hb10); have HS10 := Lib.hid (below_then HS9.out hb10 HS9.out.size)
        have HM2 := Lib.hid (may_walk (c := c4) HR10.out (by omega))
        rw [decide_eq_true (of_of l).symm] at HM2
        clear hb10
        go_wp2_with (fail)
        refine HM2.out.mono ?_
        rintro e w11 ⟨rfl, hb11⟩
        have HS11 := Lib.hid (below_then HS10.out hb11 HS10.out.size)
        have HBB11 := Lib.hid (below_then HB1.out HS11.out HB1.out.size)
        have HT := Lib.hid (text_walk (c := c1) (HOWN.out.below HS11.out) (by omega) HSH.out (HL.out.below HBB11.out))
        clear hb11
        go_wp2_with (fail)
        refine HT.out.mono ?_
        rintro e w12 ⟨rfl, hb12⟩
        have HS12 := Lib.hid (below_then HS11.out hb12 HS11.out.size)
        have HBB12 := Lib.hid (below_then HB1.out HS12.out HB1.out.size)
        have HRT := Lib.hid (refText_walk (c := c) (H.out.below HBB12.out) (by omega) HSH.out)
        generalize textE (ofA l) = tx at *
        have htx : (tx.toList == tx.toList) = true := by simp
        clear hb12
        go_wp2_with (fail)
        refine HRT.out.mono ?_
        rintro e w13 ⟨rfl, hb13⟩
        have HS13 := Lib.hid (below_then HS12.out hb13 HS12.out.size)
        have HBB13 := Lib.hid (below_then HB1.out HS13.out HB1.out.size)
        have HAW2 := Lib.hid (awake_walk w13 (HL.out.below HBB13.out))
        clear hb13
        go_wp2_with (fail)
        refine HAW2.out.mono ?_
        rintro e w14 ⟨rfl, hb14⟩
        have HB14 := Lib.hid (below_then HBB13.out hb14 HBB13.out.size)
        clear hb14
        go_wp2_with (fail)
        go_ret
        exact ⟨rfl, HB14.out⟩
end Effect
end Go.Proofs.YtggabjmfdnfckaaDoor
