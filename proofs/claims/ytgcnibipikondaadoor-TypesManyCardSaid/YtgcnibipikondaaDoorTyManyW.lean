/- The walk of layer 8's statement on many types together. -/
import Derived.Test.YtgcnibipikondaaDoorTyAwake
import Derived.Test.YtgcnibipikondaaDoorTySize
import Derived.Test.YtgcnibipikondaaDoorTyRefA
import Derived.LoopTactic
namespace Go.Proofs.YtgcnibipikondaaDoor
open Go.RowKit
set_option linter.unusedVariables false
namespace Types

theorem hasK_append (k : Int) : ∀ ts us : List Ty, hasK k (ts ++ us) = (hasK k ts || hasK k us)
  | [], us => by rw [List.nil_append, hasK_nil]; rfl
  | t :: ts, us => by rw [List.cons_append, hasK_cons, hasK_cons, hasK_append k ts us, Bool.or_assoc]
theorem hasK_take (k : Int) (ts : List Ty) (j : Nat) (hj : j < ts.length) : hasK k (ts.take (j + 1)) = (hasK k (ts.take j) || hasT k (tget ts j)) := by
  rw [take_tget ts j hj, hasK_append, hasK_cons, hasK_nil, Bool.or_false]

set_option maxRecDepth 10000 in
set_option maxHeartbeats 12800000 in
theorem typesMany_walk (p : Option Addr) (l d : Nat) (ts : List Ty) (w : World) (hI : IsTys w p l d ts) (hl : Laid w) :
    Calls Tryd.prog 5 #[.slice p l d] w fun e w' => e = .returned (.bool true) ∧ Below w.heap.size w w' := by
  obtain ⟨hlen, hld, hdm, hk⟩ := hI
  have haw := fun W (hb : Below w.heap.size w W) => awake_walk W (hl.below hb)
  have hlm : l ≤ 9223372036854775807 := by unfold maxLen at hdm; omega
  have HAW := Lib.hid haw; have HL := Lib.hid hl
  by_cases hbig : 20 < l
  · clear haw hl hk
    go_enter Tryd.func5, Tryd.ntmps5
    go_wp2_with (fail)
    refine (HAW.out _ (Below.refl _ _)).mono ?_
    rintro e w1 ⟨rfl, hb1⟩
    have HB1 := Lib.hid hb1
    clear hb1
    go_wp2_with (fail)
    go_ret
    exact ⟨rfl, HB1.out⟩
  · have HK := Lib.hid hk; have HLEN := Lib.hid hlen
    clear haw hl hk hlen
    go_enter Tryd.func5, Tryd.ntmps5
    go_wp2_with (fail)
    go_loopw [3, 4, 5] (fun n ar i wr => ∃ (j M : Nat) (A : Bool), j ≤ l ∧ i = .int .i64 j ∧ n = .int .i64 M ∧ ar = .bool A ∧ M ≤ 400 * j ∧ Hid (M = wts (ts.take j)) ∧ Hid (A = hasK 4 (ts.take j)) ∧ Hid (Below w.heap.size w wr)) (fun _ _ i _ => l - (intOf i).toNat)
    case atStart => exact ⟨0, 0, false, Nat.zero_le _, rfl, rfl, rfl, by omega, Lib.hid (by rw [List.take_zero, wts_nil]), Lib.hid (by rw [List.take_zero, hasK_nil]), Lib.hid (Below.refl _ _)⟩
    case round =>
      obtain ⟨j, M, A, hj, rfl, rfl, rfl, hM, HMM, HAA, HW⟩ := hrel
      by_cases hlt : j < l
      · have hjk : j < ts.length := by rw [HLEN.out]; exact hlt
        have hst := wts_take_step ts j hjk
        have hsa := hasK_take 4 ts j hjk
        obtain ⟨b, o, q, c', rfl, hkid, c0, c1, c2⟩ := (HK.out.stay HW.out).get j hjk
        have hlift := fun W (hb : Below wr.heap.size wr W) => And.intro ((hb.cell (World.block_lt_of_cell? wr _ c0)).trans c0) (And.intro ((hb.cell (World.block_lt_of_cell? wr _ c1)).trans c1) ((hb.cell (World.block_lt_of_cell? wr _ c2)).trans c2))
        have HST := Lib.hid hst; have HSA := Lib.hid hsa; have HKI := Lib.hid hkid; have HLI := Lib.hid hlift
        clear hst hsa hkid hjk hlift
        go_wp2_with (fail)
        refine (great_walk (tget ts j) _ q _ c' _ HKI.out).mono ?_
        rintro e w2 ⟨rfl, hb2⟩
        obtain ⟨d0, d1, d2⟩ := HLI.out _ hb2
        have HB2 := Lib.hid hb2
        have HW2 := Lib.hid (below_then HW.out hb2 HW.out.size)
        clear hb2 c0 c1 c2
        cases hg : greatB (tget ts j)
        · have hsm := small_of hg
          have HSM := Lib.hid hsm
          clear hg hsm
          go_wp2_with (fail)
          refine (refSize_walk _ (tget ts j) _ q _ c' _ (Nat.le_refl _) (by have := HSM.out; omega) (HKI.out.below HB2.out)).mono ?_
          rintro e w3 ⟨rfl, hb3⟩
          have hb3' := below_then HB2.out hb3 HB2.out.size
          obtain ⟨f0, f1, f2⟩ := HLI.out _ hb3'
          have HB3 := Lib.hid hb3'
          have HW3 := Lib.hid (below_then HW2.out hb3 HW2.out.size)
          clear hb3 hb3' d0 d1 d2
          have hm2 : M + wt (tget ts j) = wts (ts.take (j + 1)) := by rw [HST.out, HMM.out]
          have hm3 : M + wt (tget ts j) ≤ 400 * (j + 1) := by have := HSM.out; omega
          have HM2 := Lib.hid hm2
          clear hm2
          generalize wt (tget ts j) = X at *
          cases A
          · go_wp2_with (fail)
            refine (refHas_walk 4 _ (tget ts j) _ q _ c' _ (Nat.le_refl _) (HKI.out.below HB3.out)).mono ?_
            rintro e w4 ⟨rfl, hb4⟩
            have HW4 := Lib.hid (below_then HW3.out hb4 HW3.out.size)
            clear hb4 f0 f1 f2
            have hsa : hasT 4 (tget ts j) = hasK 4 (ts.take (j + 1)) := by rw [HSA.out, ← HAA.out]; rfl
            have HSA2 := Lib.hid hsa
            clear hsa
            go_wp2_with (fail)
            go_roundw
            case rel => exact ⟨j + 1, M + X, _, by omega, by go_num, by go_num, rfl, hm3, HM2, HSA2, HW4⟩
            case measure => simp [intOf]; omega
          · have hsa : true = hasK 4 (ts.take (j + 1)) := by rw [HSA.out, ← HAA.out]; rfl
            have HSA2 := Lib.hid hsa
            clear hsa
            go_wp2_with (fail)
            go_roundw
            case rel => exact ⟨j + 1, M + X, _, by omega, by go_num, by go_num, rfl, hm3, HM2, HSA2, HW3⟩
            case measure => simp [intOf]; omega
        · clear hg d0 d1 d2
          go_wp2_with (fail)
          refine (HAW.out _ HW2.out).mono ?_
          rintro e w3 ⟨rfl, hb3⟩
          have HW3 := Lib.hid (below_then HW2.out hb3 HW2.out.size)
          clear hb3
          go_wp2_with (fail)
          go_ret
          exact ⟨rfl, HW3.out⟩
      · obtain rfl : j = l := by omega
        have hm := HMM.out
        have ha := HAA.out
        rw [List.take_of_length_le (by rw [HLEN.out]; exact Nat.le_refl _)] at hm ha
        subst hm ha
        have hs := size_walk ts p j d wr HLEN.out (by unfold maxLen; omega) (HK.out.stay HW.out) (by omega)
        have har := fun W (hb : Below w.heap.size w W) => arrows_walk ts p j d W HLEN.out (by unfold maxLen; omega) (HK.out.stay hb) (HL.out.1.below hb)
        have HS := Lib.hid hs; have HAR := Lib.hid har
        clear hs har
        generalize wts ts = X at *
        generalize hasK 4 ts = Y at *
        have e1 : ((X : Int) == (X : Int)) = true := by simp
        have e2 : (Y == Y) = true := by simp
        go_wp2_with (fail)
        refine HS.out.mono ?_
        rintro e w2 ⟨rfl, hb2⟩
        have HW2 := Lib.hid (below_then HW.out hb2 HW.out.size)
        clear hb2
        go_wp2_with (fail)
        refine (HAR.out _ HW2.out).mono ?_
        rintro e w3 ⟨rfl, hb3⟩
        have HW3 := Lib.hid (below_then HW2.out hb3 HW2.out.size)
        clear hb3
        go_wp2_with (fail)
        refine (HAW.out _ HW3.out).mono ?_
        rintro e w4 ⟨rfl, hb4⟩
        have HW4 := Lib.hid (below_then HW3.out hb4 HW3.out.size)
        clear hb4
        go_wp2_with (fail)
        go_ret
        exact ⟨rfl, HW4.out⟩
end Types
end Go.Proofs.YtgcnibipikondaaDoor
