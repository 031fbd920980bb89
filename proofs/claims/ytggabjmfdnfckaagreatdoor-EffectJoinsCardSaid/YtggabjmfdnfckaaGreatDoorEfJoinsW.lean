/- The walk of EffectJoins. -/
import Derived.Test.YtggabjmfdnfckaaGreatDoorEfJoinsD
import Derived.Test.YtggabjmfdnfckaaGreatDoorEfRows
namespace Go.Proofs.YtggabjmfdnfckaaGreatDoor
open Go.RowKit
set_option linter.unusedVariables false
set_option linter.unusedSimpArgs false
namespace Effect

theorem unionZ {n c : Nat} {p : Option Addr} {rs : List (List At)} {w : World} (h : RdR w n p rs) (hn : n ≤ 10) (hs : rs.flatten.length ≤ 1000) (hok : ∀ x ∈ rs.flatten, x.x.size ≤ maxLen) : Calls Tryz.prog 9 #[.slice p n c] w fun e w' => ∃ a' m c', e = .returned (.slice a' m c') ∧ m ≤ 1000 ∧ Rd w' m a' (ofA rs.flatten) ∧ Below w.heap.size w w' := by
  refine (union_walk n c p rs w h.len (by omega) h.at_ (by omega) hok).mono ?_
  rintro e w1 ⟨v, rfl, hr1, hb1⟩
  obtain ⟨a1, c1, rfl⟩ := hr1.slice
  exact ⟨a1, _, c1, rfl, by have := of_le rs.flatten; omega, Rd.of_row hr1 (of_ok hok), hb1⟩
set_option maxRecDepth 100000 in
set_option maxHeartbeats 12800000 in
theorem effectJoins_walk (p : Option Addr) (n c : Nat) (rs : List (List At)) (w : World) (h : IsRws w p n c rs) (hl : NumLaid w) : Calls Tryz.prog 3 #[.slice p n c] w fun e w' => e = .returned (.bool true) ∧ Below w.heap.size w w' := by
  obtain ⟨h1, h2, h3⟩ := h
  have H := Lib.hid h1; have HL := Lib.hid hl; have HA := Lib.hid h3
  have HG1 := Lib.hid (greatR_walk (c := c) h1 h2)
  have HAW := Lib.hid (awake_walk w hl)
  clear h1 hl h3 h2
  cases hg1 : greatR rs with
  | true =>
    rw [hg1] at HG1
    clear hg1
    go_enter Tryz.func3, Tryz.ntmps3
    go_wp2_with (fail)
    refine HG1.out.mono ?_
    rintro e w1 ⟨rfl, rfl⟩
    go_wp2_with (fail)
    refine HAW.out.mono ?_
    rintro e w2 ⟨rfl, hb2⟩
    have HB2 := Lib.hid hb2
    clear hb2
    go_wp2_with (fail)
    go_ret
    exact ⟨rfl, HB2.out⟩
  | false =>
    have HNO := Lib.hid (greatR_no hg1)
    rw [hg1] at HG1
    clear hg1
    have hn10 : n ≤ 10 := by have := HNO.out.1; rw [H.out.len] at this; exact this
    have HSZ := Lib.hid (show rs.flatten.length ≤ 1000 by have := flat_le fun r hr => (HNO.out.2 r hr).1; have := HNO.out.1; omega)
    have HOK := Lib.hid (show ∀ x ∈ rs.flatten, x.x.size ≤ maxLen from fun x hx => by
      obtain ⟨r, hr, hx⟩ := List.mem_flatten.1 hx
      exact (HA.out r hr x hx).x)
    have HRG := Lib.hid (show ∀ x ∈ ofA rs.flatten, -9223372036854775808 ≤ x.r ∧ x.r ≤ 9223372036854775807 from fun x hx => by
      obtain ⟨r, hr, hx⟩ := List.mem_flatten.1 ((mem_of _ x).1 hx).1
      exact (HA.out r hr x hx).r)
    have HU1 := Lib.hid (refUnion_walk (c := c) H.out hn10 fun r hr => (HNO.out.2 r hr).1)
    go_enter Tryz.func3, Tryz.ntmps3
    go_wp2_with (fail)
    refine HG1.out.mono ?_
    rintro e w1 ⟨rfl, rfl⟩
    go_wp2_with (fail)
    refine HU1.out.mono ?_
    rintro e w2 ⟨a2, m2, c2, rfl, hm2, hr2, hb2⟩
    have HR2 := Lib.hid hr2; have HB2 := Lib.hid hb2
    have HU2 := Lib.hid (unionZ (c := c) (H.out.below hb2) hn10 HSZ.out HOK.out)
    clear hr2 hb2
    go_wp2_with (fail)
    refine HU2.out.mono ?_
    rintro e w3 ⟨a3, m3, c3', rfl, hm3, hr3, hb3⟩
    have HR23 := Lib.hid (HR2.out.below hb3); have HB3 := Lib.hid (below_then HB2.out hb3 HB2.out.size)
    have HE := Lib.hid (refEqual_walk (c := c3') (d := c2) hr3 HR23.out (by omega) (by omega))
    rw [decide_eq_true rfl] at HE
    clear hr3 hb3
    go_wp2_with (fail)
    refine HE.out.mono ?_
    rintro e w4 ⟨rfl, hb4⟩
    have HR24 := Lib.hid (HR23.out.below hb4); have HB4 := Lib.hid (below_then HB3.out hb4 HB3.out.size)
    have HRH := Lib.hid (rhos_walk (c := c) (H.out.below HB4.out).len (by omega) (H.out.below HB4.out).at_ (by have := HSZ.out; omega) HOK.out)
    clear hb4
    go_wp2_with (fail)
    refine HRH.out.mono ?_
    rintro e w5 ⟨a5, m5, c5, rfl, hm5, hr5, hb5⟩
    have HR5 := Lib.hid (RdI.of_own hr5 fun x hx => by
      rw [mem_tidy] at hx
      obtain ⟨y, hy, rfl⟩ := List.mem_map.1 hx
      exact HRG.out y (List.mem_filter.1 hy).1)
    have HR25 := Lib.hid (HR24.out.below hb5); have HB5 := Lib.hid (below_then HB4.out hb5 HB4.out.size)
    have HRR := Lib.hid (refRhos_walk (c := c2) HR25.out HRG.out (by omega))
    clear hr5 hb5
    go_wp2_with (fail)
    refine HRR.out.mono ?_
    rintro e w6 ⟨a6, m6, c6, rfl, hm6, hr6, hb6⟩
    have HR26 := Lib.hid (HR25.out.below hb6); have HB6 := Lib.hid (below_then HB5.out hb6 HB5.out.size)
    have HEI := Lib.hid (equalInts_walk (c := c5) (d := c6) (HR5.out.below hb6) hr6 (by omega) (by omega) (rho_fold fun x hx => ((mem_of _ x).1 hx).2).symm)
    clear hr6 hb6
    go_wp2_with (fail)
    refine HEI.out.mono ?_
    rintro e w7 ⟨rfl, hb7⟩
    have HR27 := Lib.hid (HR26.out.below hb7); have HB7 := Lib.hid (below_then HB6.out hb7 HB6.out.size)
    have HX := Lib.hid (exns_walk (c := c) (H.out.below HB7.out).len (by omega) (H.out.below HB7.out).at_ (by have := HSZ.out; omega) HOK.out)
    clear hb7
    go_wp2_with (fail)
    refine HX.out.mono ?_
    rintro e w8 ⟨a8, m8, c8, rfl, hm8, hr8, hb8⟩
    have HR8 := Lib.hid (RdS.of_txs hr8)
    have HR28 := Lib.hid (HR27.out.below hb8); have HB8 := Lib.hid (below_then HB7.out hb8 HB7.out.size)
    have HRX := Lib.hid (refExns_walk (c := c2) HR28.out (by omega))
    clear hr8 hb8
    go_wp2_with (fail)
    refine HRX.out.mono ?_
    rintro e w9 ⟨a9, m9, c9, rfl, hm9, hr9, hb9⟩
    have HB9 := Lib.hid (below_then HB8.out hb9 HB8.out.size)
    have HSM := Lib.hid (sameStrs_walk (c := c8) (d := c9) (HR8.out.below hb9) hr9 (by omega) (by omega) (by rw [of_of]))
    clear hr9 hb9
    go_wp2_with (fail)
    refine HSM.out.mono ?_
    rintro e w10 ⟨rfl, hb10⟩
    have HB10 := Lib.hid (below_then HB9.out hb10 HB9.out.size)
    have HAW2 := Lib.hid (awake_walk w10 (HL.out.below HB10.out))
    clear hb10
    go_wp2_with (fail)
    refine HAW2.out.mono ?_
    rintro e w11 ⟨rfl, hb11⟩
    have HB11 := Lib.hid (below_then HB10.out hb11 HB10.out.size)
    clear hb11
    go_wp2_with (fail)
    go_ret
    exact ⟨rfl, HB11.out⟩
end Effect
end Go.Proofs.YtggabjmfdnfckaaGreatDoor
