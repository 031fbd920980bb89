/- The walk of layer 3's statement on what is joined. -/
import Derived.Test.YtklibniadcpjhaaDoorTokenAwake
import Derived.Test.YtklibniadcpjhaaDoorTokenRefJoin
import Derived.Test.YtklibniadcpjhaaDoorTokenRelex
import Derived.Test.YtklibniadcpjhaaDoorTokenPlacesW
import Derived.Lib.ConvBytes
import Derived.Lib.SmallJoins
namespace Go.Proofs.YtklibniadcpjhaaDoor
open Go.RowKit
set_option linter.unusedVariables false
namespace Token
open Chars (ret_i64 ret_bool ret_u8 cls el isin run spanI BytesAt Bytes bytes_new below_draws)
open Words (KwLaid NumLaid Laid2 ints sel)

/-- The bytes of a text, as the conversion lays them. -/
theorem conv_bytes (w : World) (s : ByteArray) (hs : s.size ≤ maxLen) : BytesIn (Lib.bytesWorld w 5 s) (some ⟨w.heap.size, 0, none⟩) s.size (grownCap w s.size 0 5) (ints s.data.toList) :=
  ⟨Words.ints_size s, grownCap_ge w s.size 0 _, grownCap_le_maxLen w s.size 0 _ hs, Words.bytesAt_new w _ s, Words.ints_bytes _⟩

set_option maxRecDepth 100000 in
set_option maxHeartbeats 12800000 in
theorem tokenJoins_walk (p : Option Addr) (n d : Nat) (xs : List Int) (pl : Option Addr) (m dl : Nat) (ss : List ByteArray) (w : World) (hb : BytesIn w p n d xs) (hm : ss.length = m) (hml : m ≤ maxLen) (hp : TextsIn w pl ss) (hz : ∀ s ∈ ss, s.size ≤ maxLen) (hl : Laid2 w) :
    Calls Tryd.prog 4 #[.slice p n d, .slice pl m dl] w fun e w' => e = .returned (.bool true) ∧ Below w.heap.size w w' := by
  have hnl := hb.len
  have HX := Lib.hid hb.1
  have HB := Lib.hid hb; have HL := Lib.hid hl; have HM := Lib.hid hm; have HP := Lib.hid hp; have HZ := Lib.hid hz
  have hmi : (m : Int) ≤ 9223372036854775807 := by unfold maxLen at hml; omega
  clear hb hl hm hp hz hml
  by_cases hbig : 1000 < n
  · go_enter Tryd.func4, Tryd.ntmps4
    go_wp2_with (fail)
    refine (awake_walk _ HL.out).mono ?_
    rintro e w1 ⟨rfl, hb⟩
    have HB1 := Lib.hid hb; clear hb
    go_wp2
    go_ret
    exact ⟨rfl, HB1.out⟩
  by_cases hbm : 100 < m
  · go_enter Tryd.func4, Tryd.ntmps4
    go_wp2_with (fail)
    refine (awake_walk _ HL.out).mono ?_
    rintro e w1 ⟨rfl, hb⟩
    have HB1 := Lib.hid hb; clear hb
    go_wp2
    go_ret
    exact ⟨rfl, HB1.out⟩
  have hm1 : m ≤ 100 := by omega
  have HM1 := Lib.hid hm1
  go_enter Tryd.func4, Tryd.ntmps4
  go_wp2
  go_loop [5] (fun i => ∃ k : Nat, k ≤ m ∧ i = .int .i64 k ∧ ∀ j, j < k → (sel ss j).size ≤ 100) (fun i => m - (intOf i).toNat)
  case atStart => exact ⟨0, Nat.zero_le _, rfl, fun j hj => by omega⟩
  case round =>
    obtain ⟨k, hk, rfl, hall⟩ := hrel
    have HALL := Lib.hid hall; clear hall
    by_cases hlt : k < m
    · obtain ⟨b, o, rfl, K, A, a0, a1, a2⟩ := HP.out.get k (by rw [HM.out]; exact hlt)
      have hsz := HZ.out _ (Words.sel_mem (by rw [HM.out]; exact hlt : k < ss.length))
      unfold maxLen at hsz
      obtain ⟨T, hT⟩ : ∃ T, T = sel ss k := ⟨_, rfl⟩
      rw [← hT] at a1 hsz
      have HT := Lib.hid hT
      clear hT
      by_cases hbt : 100 < T.size
      · go_wp2_with (fail)
        refine (awake_walk _ HL.out).mono ?_
        rintro e w1 ⟨rfl, hb⟩
        have HB1 := Lib.hid hb; clear hb
        go_wp2
        go_ret
        exact ⟨rfl, HB1.out⟩
      · go_wp2
        go_round
        case rel =>
          refine ⟨k + 1, by omega, by go_num, fun j hj => ?_⟩
          by_cases hjk : j = k
          · rw [hjk, ← HT.out]; omega
          · exact HALL.out j (by omega)
        case measure => simp [intOf]; omega
    · obtain rfl : k = m := by omega
      have hz2 : ∀ s ∈ ss, s.size ≤ 100 := by
        intro s hs
        obtain ⟨i, hi, e⟩ := List.getElem_of_mem hs
        have := HALL.out i (by rw [← HM.out]; exact hi)
        unfold sel at this
        rw [List.getD_eq_getElem?_getD, List.getElem?_eq_getElem hi] at this
        rw [← e]
        exact this
      have hjs := jb_size ss hz2 (by rw [HM.out]; exact HM1.out)
      have hj1 := fun W hW => join_walk pl k dl ss W HM.out (by have := HM1.out; omega) (HP.out.below hW) hjs
      have hj2 := fun W hW => refJoin_walk pl k dl ss W HM.out (by have := HM1.out; omega) (HP.out.below hW) hjs
      obtain ⟨J, hJ⟩ : ∃ J, J = jb ss := ⟨_, rfl⟩
      rw [← hJ] at hj1 hj2
      have HJ1 := Lib.hid hj1; have HJ2 := Lib.hid hj2
      clear hz2 hjs hj1 hj2 hJ
      go_wp2_with (fail)
      refine (HJ1.out _ (Below.refl _ _)).mono ?_
      rintro e w1 ⟨rfl, hb1⟩
      have HB1 := Lib.hid hb1; clear hb1
      go_wp2_with (fail)
      refine (HJ2.out _ HB1.out).mono ?_
      rintro e w2 ⟨rfl, rfl⟩
      go_wp2_with (fail)
      refine (lex_walk p n d xs _ (HB.out.below HB1.out) (HL.out.below HB1.out)).mono ?_
      rintro e w3 ⟨hb3, hc3⟩
      have HB3 := Lib.hid (HB1.out.trans (hb3.mono HB1.out.size)); clear hb3
      rcases hc3 with ⟨h, _⟩ | ⟨_, q1, d1, k1, h, rfl⟩ | ⟨_, ts, g, c1, h, rfl, hat⟩
      · exfalso; rw [HX.out] at h; omega
      · clear h
        go_wp2_with (fail)
        refine (awake_walk _ (HL.out.below HB3.out)).mono ?_
        rintro e w4 ⟨rfl, hb4⟩
        have HB4 := Lib.hid (HB3.out.trans (hb4.mono HB3.out.size)); clear hb4
        go_wp2
        go_ret
        exact ⟨rfl, HB4.out⟩
      · have hjz := jb_end_size xs n ts h
        have hself := placed_self ts xs 0 HB.out.2.2.2.2 (lex_placed _ xs 0 ts (Nat.le_refl _) h)
        obtain ⟨us, hus, hks⟩ := relex ts 0 hself
        rw [← join_bytes n ts] at hus
        have hlen := lex_len h
        rw [HX.out] at hjz hat hlen
        obtain ⟨L, hL⟩ : ∃ L, L = ts.length := ⟨_, rfl⟩
        rw [← hL] at hlen ⊢
        have hjw := join_walk (some ⟨g, 0, none⟩) (L + 1) c1 (texts (ts ++ [endT n])) w3 (by rw [texts_len, List.length_append, hL]; rfl) (by omega) hat.in_ (by omega)
        obtain ⟨J2, hJ2⟩ : ∃ J2, J2 = jb (texts (ts ++ [endT n])) := ⟨_, rfl⟩
        rw [← hJ2] at hjw hus hjz
        have hjm : J2.size ≤ maxLen := by unfold maxLen; omega
        have HJW := Lib.hid hjw; have HUS := Lib.hid hus; have HKS := Lib.hid hks; have HAT := Lib.hid hat; have HLL := Lib.hid hL; have HJM := Lib.hid hjm; have HJZ := Lib.hid hjz
        clear h hself hus hks hat hjw hJ2 hjm hL
        go_wp2_with (fail)
        refine HJW.out.mono ?_
        rintro e w4 ⟨rfl, hb4⟩
        have HB4 := Lib.hid (HB3.out.trans (hb4.mono HB3.out.size))
        have HAT4 := Lib.hid (HAT.out.below hb4)
        clear hb4
        have hcv := fun W : World => Lib.run_convert_string_bytes (P := Tryd.prog) W 9 22 5 J2 (u := .string) Tryd.underlying9 Tryd.underlying22 Tryd.underlying5
        have hbw : Below w4.heap.size w4 (Lib.bytesWorld w4 5 J2) := Go.Joins.below_bytesWorld _ _ _ _ (Nat.le_refl _)
        have HBW := Lib.hid hbw
        have HBI := Lib.hid (conv_bytes w4 J2 HJM.out)
        clear hbw
        go_wp2_with (fail)
        refine (lex_walk _ J2.size _ (ints J2.data.toList) _ HBI.out (HL.out.below (HB4.out.trans (HBW.out.mono HB4.out.size)))).mono ?_
        rintro e w5 ⟨hb5, hc5⟩
        have HB45 := Lib.hid (HBW.out.trans (hb5.mono HBW.out.size))
        clear hb5 hcv
        have HB5 := Lib.hid (HB4.out.trans (HB45.out.mono HB4.out.size))
        have HAT5 := Lib.hid (HAT4.out.below HB45.out)
        rcases hc5 with ⟨h, _⟩ | ⟨_, q2, d2, k2, h, rfl⟩ | ⟨_, us', g', c', h, rfl, hat'⟩
        · exfalso; rw [Words.ints_size] at h; have := HJZ.out; omega
        · rw [HUS.out] at h; cases h
        · rw [HUS.out] at h
          obtain rfl : us = us' := by injection h
          have hul := (ks_tel us ts HKS.out 0).1
          rw [← HLL.out] at hul
          rw [hul]
          have HUL := Lib.hid hul; have HAT' := Lib.hid hat'
          clear h hul hat'
          go_wp2
          go_loopw [12] (fun i wr => ∃ j : Nat, j ≤ L + 1 ∧ i = .int .i64 j ∧ Below w5.heap.size w5 wr) (fun i _ => L + 1 - (intOf i).toNat)
          case atStart => exact ⟨0, Nat.zero_le _, rfl, Below.refl _ _⟩
          case round =>
            obtain ⟨j, hj, rfl, hw⟩ := hrel
            have HW := Lib.hid hw; clear hw
            have HWW := Lib.hid (HB5.out.trans (HW.out.mono HB5.out.size))
            by_cases hlt3 : j = L + 1
            · subst hlt3
              go_wp2_with (fail)
              refine (awake_walk _ (HL.out.below HWW.out)).mono ?_
              rintro e w7 ⟨rfl, hb7⟩
              have HB7 := Lib.hid (HWW.out.trans (hb7.mono HWW.out.size)); clear hb7
              go_wp2
              go_ret
              exact ⟨rfl, HB7.out⟩
            · obtain ⟨c0, c1', c2'⟩ := (HAT5.out.below HW.out) j (by rw [List.length_append, ← HLL.out]; simp; omega)
              obtain ⟨e0, e1, e2⟩ := (HAT'.out.below HW.out) j (by rw [List.length_append, HUL.out]; simp; omega)
              have hke : ∃ K T, wr.cell? ⟨g, j * 3, none⟩ = some (.int .u8 K) ∧ wr.cell? ⟨g, j * 3 + 1, none⟩ = some (.string T) ∧ wr.cell? ⟨g', j * 3, none⟩ = some (.int .u8 K) ∧ wr.cell? ⟨g', j * 3 + 1, none⟩ = some (.string T) := by
                by_cases hjm : j < L
                · rw [tel_append_left _ _ _ (by rw [← HLL.out]; exact hjm)] at c0 c1'
                  rw [tel_append_left _ _ _ (by rw [HUL.out]; exact hjm)] at e0 e1
                  obtain ⟨_, hk', hs'⟩ := ks_tel us ts HKS.out j
                  rw [hk'] at e0
                  rw [hs'] at e1
                  exact ⟨_, _, c0, c1', e0, e1⟩
                · obtain rfl : j = L := by omega
                  rw [HLL.out, tel_append_last, ← HLL.out] at c0 c1'
                  rw [← HUL.out, tel_append_last, HUL.out] at e0 e1
                  exact ⟨6, ⟨#[]⟩, c0, c1', e0, e1⟩
              clear c0 c1' c2' e0 e1 e2
              obtain ⟨K, T, f0, f1, f2, f3⟩ := hke
              go_wp2
              go_quiet (fail)
              go_wp2
              go_roundw
              case rel => exact ⟨j + 1, by omega, by go_num, below_draws HW.out _⟩
              case measure => simp [intOf]; omega
end Token
end Go.Proofs.YtklibniadcpjhaaDoor
