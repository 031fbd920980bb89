/- The walk of EffectDrops. -/
import Derived.Test.YtggabjmfdnfckaaGreatDoorEfRWout
import Derived.Test.YtggabjmfdnfckaaGreatDoorEfRhos
namespace Go.Proofs.YtggabjmfdnfckaaGreatDoor
open Go.RowKit
set_option linter.unusedVariables false
set_option linter.unusedSimpArgs false
namespace Effect

theorem exnsZ {n c : Nat} {a : Option Addr} {l : List At} {w W : World} (h : Rd w n a l) (hn : n ≤ 10000) (ty : TypeId) (hW : W = w.alloc (.cells #[.slice a n c] ty)) : Calls Tryz.prog 14 #[.slice (some ⟨w.heap.size, 0, none⟩) 1 1] W fun e w' => ∃ a' m c', e = .returned (.slice a' m c') ∧ m ≤ 10000 ∧ RdS w' m a' (exnsOf (ofA l)) ∧ Below w.heap.size w w' := by
  subst hW
  have he : [l].flatten = l := by simp
  refine (exns_walk (n := 1) (c := 1) (p := some ⟨w.heap.size, 0, none⟩) (rs := [l]) (w := w.alloc (.cells #[.slice a n c] ty)) rfl (by omega) (rows_one (heap_alloc_new w _) h.len.symm (h.at_.below (al_new _))) (by rw [he, h.len]; exact hn) (by rw [he]; exact h.ok)).mono ?_
  rintro e w1 ⟨a1, m, c1, rfl, hm, ht, hb1⟩
  rw [he] at ht
  exact ⟨a1, m, c1, rfl, hm, RdS.of_txs ht, below_row (Below.refl _ _) hb1 (Nat.le_refl _)⟩
theorem rhosZ {n c : Nat} {a : Option Addr} {l : List At} {w W : World} (h : Rd w n a l) (hn : n ≤ 10000) (hr : ∀ x ∈ l, -9223372036854775808 ≤ x.r ∧ x.r ≤ 9223372036854775807) (ty : TypeId) (hW : W = w.alloc (.cells #[.slice a n c] ty)) : Calls Tryz.prog 11 #[.slice (some ⟨w.heap.size, 0, none⟩) 1 1] W fun e w' => ∃ a' m c', e = .returned (.slice a' m c') ∧ m ≤ 10000 ∧ RdI w' m a' (tidyI (rhosOf (ofA l))) ∧ Below w.heap.size w w' := by
  subst hW
  have he : [l].flatten = l := by simp
  refine (rhos_walk (n := 1) (c := 1) (p := some ⟨w.heap.size, 0, none⟩) (rs := [l]) (w := w.alloc (.cells #[.slice a n c] ty)) rfl (by omega) (rows_one (heap_alloc_new w _) h.len.symm (h.at_.below (al_new _))) (by rw [he, h.len]; exact hn) (by rw [he]; exact h.ok)).mono ?_
  rintro e w1 ⟨a1, m, c1, rfl, hm, ht, hb1⟩
  rw [he] at ht
  refine ⟨a1, m, c1, rfl, hm, RdI.of_own ht fun x hx => ?_, below_row (Below.refl _ _) hb1 (Nat.le_refl _)⟩
  rw [mem_tidy] at hx
  obtain ⟨y, hy, rfl⟩ := List.mem_map.1 hx
  exact hr y ((mem_of _ _).1 (List.mem_filter.1 hy).1).1
theorem no_rho {k : List Int} {l : List At} {x : Int} (hx : x ∈ tidyI (rhosOf (ofA ((ofA l).filter (stayR k))))) : k.contains x = false := by
  rw [mem_tidy] at hx
  obtain ⟨y, hy, rfl⟩ := List.mem_map.1 hx
  obtain ⟨h1, h2⟩ := List.mem_filter.1 hy
  have h3 := (List.mem_filter.1 ((mem_of _ _).1 h1).1).2
  unfold stayR at h3
  rw [h2] at h3
  simpa using h3
theorem no_exn {k : List ByteArray} {l : List At} {x : ByteArray} (hx : x ∈ exnsOf (ofA ((ofA l).filter (stayE k)))) : Lib.containsS k x = false := by
  obtain ⟨y, hy, rfl⟩ := List.mem_map.1 hx
  obtain ⟨h1, h2⟩ := List.mem_filter.1 hy
  have h3 := (List.mem_filter.1 ((mem_of _ _).1 h1).1).2
  have h4 := goes_stay y k
  rw [h3] at h4
  unfold goesB at h4
  rw [h2] at h4
  simpa using h4
set_option maxRecDepth 100000 in
set_option maxHeartbeats 12800000 in
theorem effectDrops_walk (a ak as_ : Option Addr) (n nk ns c ck cs : Nat) (l : List At) (k : List Int) (s : List ByteArray) (w : World) (h : Rd w n a l) (hk : RdI w nk ak k) (hs : RdS w ns as_ s) (hr : ∀ x ∈ l, -9223372036854775808 ≤ x.r ∧ x.r ≤ 9223372036854775807) (hso : ∀ x ∈ s, x.size ≤ maxLen) (hn : n ≤ maxLen) (hnk : nk ≤ maxLen) (hns : ns ≤ maxLen) (hl : NumLaid w) : Calls Tryz.prog 4 #[.slice a n c, .slice ak nk ck, .slice as_ ns cs] w fun e w' => e = .returned (.bool true) ∧ Below w.heap.size w w' := by
  have H := Lib.hid h; have HKK := Lib.hid hk; have HSS := Lib.hid hs; have HL := Lib.hid hl; have HRR := Lib.hid hr; have HSO := Lib.hid hso
  have HG1 := Lib.hid (great_walk (c := c) h hn)
  have HAW := Lib.hid (awake_walk w hl)
  unfold maxLen at hnk hns
  clear h hk hs hl hr hso
  cases hg1 : greatB l with
  | true =>
    rw [hg1] at HG1
    clear hg1
    go_enter Tryz.func4, Tryz.ntmps4
    go_wp2_with (fail)
    refine HG1.out.mono ?_
    rintro e w1 ⟨rfl, rfl⟩
    go_wp2_with (fail)
    refine HAW.out.mono ?_
    rintro e w2 ⟨rfl, hb2⟩
    have HB2 := Lib.hid hb2
    clear hb2
    go_wp2_with (fail)
    go_ret
    exact ⟨rfl, HB2.out⟩
  | false =>
    have hn100 : n ≤ 100 := by have := (great_no hg1).1; rw [H.out.len] at this; exact this
    rw [hg1] at HG1
    clear hg1 hn
    by_cases hf1 : 100 < nk
    · clear hn100
      go_enter Tryz.func4, Tryz.ntmps4
      go_wp2_with (fail)
      refine HG1.out.mono ?_
      rintro e w1 ⟨rfl, rfl⟩
      go_wp2_with (fail)
      refine HAW.out.mono ?_
      rintro e w2 ⟨rfl, hb2⟩
      have HB2 := Lib.hid hb2
      clear hb2
      go_wp2_with (fail)
      go_ret
      exact ⟨rfl, HB2.out⟩
    · by_cases ht1 : 100 < ns
      · clear hn100
        go_enter Tryz.func4, Tryz.ntmps4
        go_wp2_with (fail)
        refine HG1.out.mono ?_
        rintro e w1 ⟨rfl, rfl⟩
        go_wp2_with (fail)
        refine HAW.out.mono ?_
        rintro e w2 ⟨rfl, hb2⟩
        have HB2 := Lib.hid hb2
        clear hb2
        go_wp2_with (fail)
        go_ret
        exact ⟨rfl, HB2.out⟩
      · have hdummy : True := trivial
        clear hdummy
        go_enter Tryz.func4, Tryz.ntmps4
        go_wp2_with (fail)
        refine HG1.out.mono ?_
        rintro e w1 ⟨rfl, rfl⟩
        go_wp2_with (fail)
        go_loopw [7] (fun i wr => ∃ j : Nat, j ≤ ns ∧ i = .int .i64 (j : Int) ∧ Hid (wr = w1)) (fun i _ => ns - (intOf i).toNat)
        case atStart => exact ⟨0, Nat.zero_le _, rfl, Lib.hid rfl⟩
        case round =>
          obtain ⟨j, hj, rfl, HW⟩ := hrel
          obtain rfl := HW.out
          clear HW
          by_cases hlt : j < ns
          · have hjs : j < s.length := by rw [HSS.out.len]; exact hlt
            obtain ⟨bs, os, rfl, s0⟩ := strs_get HSS.out j hjs
            have hy : (s.getD j ByteArray.empty).size ≤ maxLen := HSO.out _ (by rw [List.getD_eq_getElem?_getD, List.getElem?_eq_getElem hjs]; exact List.getElem_mem hjs)
            generalize s.getD j ByteArray.empty = y at *
            unfold maxLen at hy
            clear hjs
            by_cases hbig : 100 < y.size
            · clear hn100
              go_wp2_with (fail)
              refine HAW.out.mono ?_
              rintro e w2 ⟨rfl, hb2⟩
              have HB2 := Lib.hid hb2
              clear hb2
              go_wp2_with (fail)
              go_ret
              exact ⟨rfl, HB2.out⟩
            · go_wp2_with (fail)
              go_roundw
              case rel => exact ⟨j + 1, by omega, by go_num, Lib.hid (by trivial)⟩
              case measure => simp [intOf]; omega
          · have HW1 := Lib.hid (withoutR (c := c) (d := ck) H.out HKK.out (by omega) (by omega))
            go_wp2_with (fail)
            refine HW1.out.mono ?_
            rintro e w2 ⟨a2, m2, c2, rfl, hm2, hr2, hb2⟩
            have HR2 := Lib.hid hr2; have HB2 := Lib.hid hb2
            have HH1 := Lib.hid (handledR (c := c) (d := cs) (H.out.below hb2) (HSS.out.below hb2) (by omega) (by omega))
            clear hr2 hb2
            go_wp2_with (fail)
            refine HH1.out.mono ?_
            rintro e w3 ⟨a3, m3, c3', rfl, hm3, hr3, hb3⟩
            have HR3 := Lib.hid hr3; have HR23 := Lib.hid (HR2.out.below hb3); have HB3 := Lib.hid (below_then HB2.out hb3 HB2.out.size)
            have HRW := Lib.hid (refWithout_walk (c := c) (ck := ck) (H.out.below HB3.out) (HKK.out.below HB3.out) (by omega) (by omega))
            clear hr3 hb3
            go_wp2_with (fail)
            refine HRW.out.mono ?_
            rintro e w4 ⟨a4, m4, c4, rfl, hm4, hr4, hb4⟩
            have HR24 := Lib.hid (HR23.out.below hb4); have HR34 := Lib.hid (HR3.out.below hb4); have HB4 := Lib.hid (below_then HB3.out hb4 HB3.out.size)
            have HE1 := Lib.hid (refEqual_walk (c := c2) (d := c4) HR24.out hr4 (by omega) (by omega))
            rw [decide_eq_true rfl] at HE1
            clear hr4 hb4
            go_wp2_with (fail)
            refine HE1.out.mono ?_
            rintro e w5 ⟨rfl, hb5⟩
            have HR25 := Lib.hid (HR24.out.below hb5); have HR35 := Lib.hid (HR34.out.below hb5); have HB5 := Lib.hid (below_then HB4.out hb5 HB4.out.size)
            have HRH := Lib.hid (refHandled_walk (c := c) (ck := cs) (H.out.below HB5.out) (HSS.out.below HB5.out) (by omega) (by omega))
            clear hb5
            go_wp2_with (fail)
            refine HRH.out.mono ?_
            rintro e w6 ⟨a6, m6, c6, rfl, hm6, hr6, hb6⟩
            have HR26 := Lib.hid (HR25.out.below hb6); have HR36 := Lib.hid (HR35.out.below hb6); have HB6 := Lib.hid (below_then HB5.out hb6 HB5.out.size)
            have HE2 := Lib.hid (refEqual_walk (c := c3') (d := c6) HR36.out hr6 (by omega) (by omega))
            rw [decide_eq_true rfl] at HE2
            clear hr6 hb6
            go_wp2_with (fail)
            refine HE2.out.mono ?_
            rintro e w7 ⟨rfl, hb7⟩
            have HR27 := Lib.hid (HR26.out.below hb7); have HR37 := Lib.hid (HR36.out.below hb7); have HB7 := Lib.hid (below_then HB6.out hb7 HB6.out.size)
            have HRO := Lib.hid fun W ty => rhosZ (c := c2) (W := W) HR27.out (by omega) (fun x hx => HRR.out x ((mem_of _ _).1 (List.mem_filter.1 hx).1).1) ty
            clear hb7
            go_wp2_with (fail)
            refine (HRO.out _ _ rfl).mono ?_
            rintro e w8 ⟨a8, m8, c8, rfl, hm8, hr8, hb8⟩
            have HR8 := Lib.hid hr8; have HR38 := Lib.hid (HR37.out.below hb8); have HB8 := Lib.hid (below_then HB7.out hb8 HB7.out.size)
            clear hr8 hb8
            go_wp2_with (fail)
            go_loopw [11] (fun i wr => ∃ t : Nat, t ≤ m8 ∧ i = .int .i64 (t : Int) ∧ Hid (wr = w8)) (fun i _ => m8 - (intOf i).toNat)
            case atStart => exact ⟨0, Nat.zero_le _, rfl, Lib.hid rfl⟩
            case round =>
              obtain ⟨t, ht, rfl, HW⟩ := hrel
              obtain rfl := HW.out
              clear HW
              by_cases hlt2 : t < m8
              · have htl := hlt2
                rw [← HR8.out.len] at htl
                obtain ⟨b1, o1, rfl, e0⟩ := HR8.out.get t htl
                have hno := no_rho (nget_mem htl)
                generalize nget (tidyI (rhosOf (ofA ((ofA l).filter (stayR k))))) t = z at *
                have HIN := Lib.hid (refInts_walk (c := ck) (HKK.out.below HB8.out) (by omega) z)
                rw [hno] at HIN
                clear hno htl
                go_wp2_with (fail)
                refine HIN.out.mono ?_
                rintro e w9 ⟨rfl, rfl⟩
                go_wp2_with (fail)
                go_roundw
                case rel => exact ⟨t + 1, by omega, by go_num, Lib.hid (by trivial)⟩
                case measure => simp [intOf]; omega
              · have HX := Lib.hid fun W ty => exnsZ (c := c3') (W := W) HR38.out (by omega) ty
                go_wp2_with (fail)
                refine (HX.out _ _ rfl).mono ?_
                rintro e w9 ⟨a9, m9, c9, rfl, hm9, hr9, hb9⟩
                have HR9 := Lib.hid hr9; have HB9 := Lib.hid (below_then HB8.out hb9 HB8.out.size)
                clear hr9 hb9
                go_wp2_with (fail)
                go_loopw [13] (fun i wr => ∃ q : Nat, q ≤ m9 ∧ i = .int .i64 (q : Int) ∧ Hid (wr = w9)) (fun i _ => m9 - (intOf i).toNat)
                case atStart => exact ⟨0, Nat.zero_le _, rfl, Lib.hid rfl⟩
                case round =>
                  obtain ⟨q, hq, rfl, HW⟩ := hrel
                  obtain rfl := HW.out
                  clear HW
                  by_cases hlt3 : q < m9
                  · have hql := hlt3
                    rw [← HR9.out.len] at hql
                    obtain ⟨b2, o2, rfl, e0⟩ := strs_get HR9.out q hql
                    have hno := no_exn (k := s) (l := l) (x := (exnsOf (ofA ((ofA l).filter (stayE s)))).getD q ByteArray.empty) (by rw [List.getD_eq_getElem?_getD, List.getElem?_eq_getElem hql]; exact List.getElem_mem hql)
                    generalize (exnsOf (ofA ((ofA l).filter (stayE s)))).getD q ByteArray.empty = z at *
                    have HIN := Lib.hid (refIn_walk (c := cs) (HSS.out.below HB9.out) (by omega) z)
                    rw [hno] at HIN
                    clear hno hql
                    go_wp2_with (fail)
                    refine HIN.out.mono ?_
                    rintro e w10 ⟨rfl, rfl⟩
                    go_wp2_with (fail)
                    go_roundw
                    case rel => exact ⟨q + 1, by omega, by go_num, Lib.hid (by trivial)⟩
                    case measure => simp [intOf]; omega
                  · rename_i wz
                    have HAW2 := Lib.hid fun W (hW : Below _ _ W) => awake_walk W (HL.out.below hW)
                    have HBZ := HB9
                    go_wp2_with (fail)
                    refine (HAW2.out _ HBZ.out).mono ?_
                    rintro e w11 ⟨rfl, hb11⟩
                    have HB11 := Lib.hid (below_then HBZ.out hb11 HBZ.out.size)
                    clear hb11
                    go_wp2_with (fail)
                    go_ret
                    exact ⟨rfl, HB11.out⟩
theorem effectDrops_of (a ak as_ : Option Addr) (n nk ns c ck cs : Nat) (l : List At) (zk : List Int) (zs : List ByteArray) (w : World) (h : IsAts w a n c l) (hk : Views.IsRow .i64 w ak nk ck zk) (hs : Views.IsStrs w as_ ns cs zs) (hl : NumLaid w) : Calls Tryz.prog 4 #[.slice a n c, .slice ak nk ck, .slice as_ ns cs] w fun e w' => e = .returned (.bool true) ∧ Below w.heap.size w w' := by
  obtain ⟨ss, h1, h2, h3, h4, h5⟩ := hs.opened
  exact effectDrops_walk a ak as_ n nk ns c ck cs l (zk.take nk) ss w h.rd (RdI.of_row hk).1 ⟨h1, h4⟩ (fun x hx => (h.2.2.2 x hx).r) h5 h.2.1 (RdI.of_row hk).2 (Nat.le_trans h2 h3) hl
end Effect
end Go.Proofs.YtggabjmfdnfckaaGreatDoor
