/- The walk of layer 4's statement on how many nodes, how deep, and of which kinds. -/
import Derived.Test.YtpedmaomogigmaaDoorTermGreatK
import Derived.Test.YtpedmaomogigmaaDoorTermAwake
import Derived.Test.YtpedmaomogigmaaDoorTermKinds
import Derived.Test.YtpedmaomogigmaaDoorTermAllW
import Derived.Deep.QuietTactic
import Derived.BigQuiet
namespace Go.Proofs.YtpedmaomogigmaaDoor
open Go.RowKit
set_option linter.unusedVariables false
namespace Term

theorem val_i64 {a b : Int} (h : a = b) : Value.int .i64 a = .int .i64 b := by rw [h]
/-- Is one of the first j of a kind? -/
def anyK (kind : Int) (F : List Tm) (j : Nat) : Bool := (F.take j).any fun t => decide (t.h.k = kind)
theorem anyK_zero (kind : Int) (F : List Tm) : anyK kind F 0 = false := by unfold anyK; rw [List.take_zero]; rfl
theorem anyK_step {kind : Int} {F : List Tm} {j : Nat} (hj : j < F.length) : anyK kind F (j + 1) = (anyK kind F j || decide ((tget F j).h.k = kind)) := by
  unfold anyK
  rw [take_tget F j hj, List.any_append]
  simp
theorem has_any (kind : Int) : ∀ m : Nat, (∀ t, wt t ≤ m → hasT kind t = (flatT t).any fun t => decide (t.h.k = kind)) ∧ (∀ ts, wts ts ≤ m → hasK kind ts = (flatK ts).any fun t => decide (t.h.k = kind)) := by
  intro m
  induction m with
  | zero =>
    refine ⟨fun t h => by have := wt_pos t; omega, fun ts h => ?_⟩
    cases ts with
    | nil => rw [flatK_nil, hasK_nil]; rfl
    | cons t ts => rw [wts_cons] at h; have := wt_pos t; omega
  | succ m ih =>
    have hT : ∀ t, wt t ≤ m + 1 → hasT kind t = (flatT t).any fun t => decide (t.h.k = kind) := by
      intro t h
      have hk := wt_ks t
      rw [hasT_eq, flatT_eq, List.any_cons, ih.2 t.ks (by omega)]
    refine ⟨hT, fun ts => ?_⟩
    induction ts with
    | nil => intro _; rw [flatK_nil, hasK_nil]; rfl
    | cons t ts ihs =>
      intro h
      rw [wts_cons] at h
      rw [hasK_cons, flatK_cons, List.any_append, hT t (by omega), ihs (by omega)]
theorem anyK_all (kind : Int) (ts : List Tm) : anyK kind (flatK ts) (wts ts) = hasK kind ts := by
  unfold anyK
  rw [(has_any kind (wts ts)).2 ts (Nat.le_refl _), List.take_of_length_le (by rw [flatK_len]; exact Nat.le_refl _)]
theorem own_slice {w : World} {base e size n : Nat} {v : Value} {xs : List Value} (h : w.ownsRow base e size v n xs) : ∃ a c, v = .slice a n c ∧ c ≤ 9223372036854775807 ∧ n ≤ c := by
  rcases h.2 with ⟨hv, h0⟩ | ⟨g, cap, _, hv, _, _, h1, h2, _⟩
  · subst h0; exact ⟨none, 0, hv, by omega, Nat.le_refl _⟩
  · unfold maxLen at h2; exact ⟨_, cap, hv, by omega, h1⟩
theorem own_at {w : World} {base e size n c : Nat} {a : Option Addr} {xs : List Value} (h : w.ownsRow base e size (.slice a n c) n xs) (hn : 0 < n) : ∃ g, a = some ⟨g, 0, none⟩ := by
  rcases h.2 with ⟨_, h0⟩ | ⟨g, cap, _, hv, _⟩
  · omega
  · injection hv with hv; exact ⟨g, hv⟩
theorem row_cell {w : World} {base e size n c g : Nat} {xs : List Value} (h : w.ownsRow base e size (.slice (some ⟨g, 0, none⟩) n c) n xs) {j : Nat} {u : Value} (hu : xs[j]? = some u) : w.cell? ⟨g, j, none⟩ = some u := by
  have := h.cells (g := g) rfl j u hu
  rw [Addr.add_lit] at this
  simpa using this
theorem flat_kind {w : World} {F : List Tm} {xs : List Value} (h : Flat w xs F) {j : Nat} (hj : j < F.length) : xs[j * 8]? = some (.int .u8 (tget F j).h.k) := by
  obtain ⟨q, c, _, hc⟩ := h.get j hj
  exact hc 0 _ rfl
theorem kinds_kind (ts : List Tm) {j : Nat} (hj : j < (flatK ts).length) : ((kindsOf ts).map (Value.int .u8))[j]? = some (.int .u8 (tget (flatK ts) j).h.k) := by
  unfold kindsOf
  rw [List.getElem?_map, List.getElem?_map, tget_at hj]
  rfl

set_option maxRecDepth 100000 in
set_option maxHeartbeats 12800000 in
theorem counts_walk (ts : List Tm) (p : Option Addr) (l d : Nat) (kind : Int) (w : World) (hl : ts.length = l) (hlm : l ≤ maxLen) (hk : Kids w p ts) (hk0 : 0 ≤ kind) (hk1 : kind ≤ 255) (hkw : Words.KwLaid w) :
    Calls Tryd.prog 4 #[.slice p l d, .int .u8 kind] w fun e w' => e = .returned (.bool true) ∧ Below w.heap.size w w' := by
  have hg := lawGreat_walk ts p l d w hl hlm hk
  have HKW := Lib.hid hkw; have HL := Lib.hid hl; have HK := Lib.hid hk; have HLM := Lib.hid hlm
  unfold maxLen at hlm
  cases hgr : greatK ts
  case true =>
    rw [hgr] at hg
    have HG := Lib.hid hg
    clear hg hgr hkw hl hk hlm
    go_enter Tryd.func4, Tryd.ntmps4
    go_wp2_with (fail)
    refine HG.out.mono ?_
    rintro e w1 ⟨rfl, hb1⟩
    have HB1 := Lib.hid hb1; clear hb1
    go_wp2_with (fail)
    refine (awake_walk _ (HKW.out.below HB1.out)).mono ?_
    rintro e w2 ⟨rfl, hb2⟩
    have HB2 := Lib.hid (below_then HB1.out hb2 HB1.out.size); clear hb2
    go_wp2
    go_ret
    exact ⟨rfl, HB2.out⟩
  obtain ⟨hl20, hw8⟩ := small_of_great hgr
  rw [hgr] at hg
  have HG := Lib.hid hg; have HW8 := Lib.hid hw8
  have hll : l ≤ 20 := by omega
  obtain ⟨i0, hi0, hz0, hz1, hz2⟩ := info_parts infoTerm
  have HI0 := Lib.hid hi0; have HZ0 := Lib.hid hz0; have HZ1 := Lib.hid hz1; have HZ2 := Lib.hid hz2
  clear hg hgr hkw hl hk hlm hl20 hw8 hi0 hz0 hz1 hz2
  go_enter Tryd.func4, Tryd.ntmps4
  go_wp2_with (fail)
  refine HG.out.mono ?_
  rintro e w1 ⟨rfl, hb1⟩
  have HB1 := Lib.hid hb1; clear hb1
  have hown0 := World.ownsRow_made (base := w.heap.size) (e := 26) (size := 8) w1 #[] 0 HB1.out.size (by unfold maxLen; omega) rfl
  have HO0 := Lib.hid hown0; clear hown0
  go_wp2_with (fail)
  go_loopw [5, 6, 7] (fun v dp i wr => ∃ (j : Nat) (xs : List Value), j ≤ l ∧ i = .int .i64 j ∧ dp = .int .i64 (depK (ts.take j) : Nat) ∧ Hid (wr.ownsRow w.heap.size 26 8 v (wts (ts.take j)) xs) ∧ Hid (Flat w xs (flatK (ts.take j))) ∧ Hid (Below w.heap.size w wr)) (fun _ _ i _ => l - (intOf i).toNat)
  case atStart =>
    refine ⟨0, [], Nat.zero_le _, rfl, by rw [List.take_zero, depK_nil]; rfl, Lib.hid ?_, Lib.hid ?_, Lib.hid (HB1.out.alloc HB1.out.size _)⟩
    · rw [List.take_zero, wts_nil]; exact HO0.out
    · rw [List.take_zero, flatK_nil]; rfl
  case round =>
    obtain ⟨j, xs, hj, rfl, rfl, HOWN, HFL, HW⟩ := hrel
    by_cases hlt : j < l
    · have hjk : j < ts.length := by rw [HL.out]; exact hlt
      obtain ⟨b, o, q, c', rfl, hkid, c0, c1, c2, c3, c4, c5, c6, c7⟩ := HK.out.get j hjk
      have hcells : ∀ W, Below w.heap.size w W → W.cell? ⟨b, o + j * 8, none⟩ = some (.int .u8 (tget ts j).h.k) ∧ W.cell? ⟨b, o + j * 8 + 1, none⟩ = some (.int .u8 (tget ts j).h.op) ∧ W.cell? ⟨b, o + j * 8 + 2, none⟩ = some (.int .i64 (tget ts j).h.pl) ∧
          W.cell? ⟨b, o + j * 8 + 3, none⟩ = some (.int .i64 (tget ts j).h.n) ∧ W.cell? ⟨b, o + j * 8 + 4, none⟩ = some (.string (tget ts j).h.name) ∧ W.cell? ⟨b, o + j * 8 + 5, none⟩ = some (.string (tget ts j).h.arg) ∧
          W.cell? ⟨b, o + j * 8 + 6, none⟩ = some (.string (tget ts j).h.exn) ∧ W.cell? ⟨b, o + j * 8 + 7, none⟩ = some (.slice q (tget ts j).ks.length c') := fun W hb =>
        ⟨Reads.of_below hb _ _ c0, Reads.of_below hb _ _ c1, Reads.of_below hb _ _ c2, Reads.of_below hb _ _ c3, Reads.of_below hb _ _ c4, Reads.of_below hb _ _ c5, Reads.of_below hb _ _ c6, Reads.of_below hb _ _ c7⟩
      have hdt := depK_take ts j hjk
      have hfk := flatK_take ts j hjk
      have hwk := wts_take ts j hjk
      have hwl := wts_take_le ts (j + 1)
      have hde1 := (dep_le (wts (ts.take j))).2 (ts.take j) (Nat.le_refl _)
      have hde2 := (dep_le (wt (tget ts j))).1 (tget ts j) (Nat.le_refl _)
      have HKI := Lib.hid hkid; have HCE := Lib.hid hcells; have HDT := Lib.hid hdt; have HFK := Lib.hid hfk; have HWK := Lib.hid hwk; have HWL := Lib.hid hwl; have HD1 := Lib.hid hde1; have HD2 := Lib.hid hde2
      clear hkid hcells hdt hfk hwk hwl hde1 hde2 hjk c0 c1 c2 c3 c4 c5 c6 c7
      obtain ⟨c0, c1, c2, c3, c4, c5, c6, c7⟩ := HCE.out _ HW.out
      go_wp2_with (fail)
      refine (refAll_walk (wt (tget ts j)) (tget ts j) _ q _ c' w _ (Nat.le_refl _) (by have := HWK.out; have := HWL.out; have := HW8.out; omega) HKI.out HW.out).mono ?_
      rintro e w2 ⟨g2, d2, ys, rfl, hown2, hfl2, hb2⟩
      have HW2 := Lib.hid (below_then HW.out hb2 HW.out.size)
      have HO2 := Lib.hid (own_below HOWN.out hb2)
      have HC2 := Lib.hid (hown2.cells (g := g2) rfl)
      have HL2 := Lib.hid hown2.1
      have HF2 := Lib.hid hfl2
      have hbd : wts (ts.take j) + wt (tget ts j) ≤ 8000 := by have := HWK.out; have := HWL.out; have := HW8.out; omega
      have HBD := Lib.hid hbd
      clear hb2 hown2 hfl2 hbd c0 c1 c2 c3 c4 c5 c6 c7
      go_wp2_with (at_builtin; refine wpList_append_own _ rfl (.tmp 21) (.tmp 26) 24 rfl w.heap.size 26 i0 (.agg #[.int .u8 0, .int .u8 0, .int .i64 0, .int .i64 0, .string ⟨#[]⟩, .string ⟨#[]⟩, .string ⟨#[]⟩, .slice none 0 0]) 8 96 Tryd.underlying24 HI0.out HZ0.out HZ1.out HZ2.out rfl (by decide) _ _ _ rfl HO2.out ⟨g2, 0, none⟩ (wt (tget ts j)) d2 ys rfl HL2.out HC2.out (Flat.cells1 HF2.out) (by have := HBD.out; unfold maxLen; omega) (by have := HBD.out; omega) HW2.out.size ?_; intro v3 w3 hown3 hgrow3 hnil3; have HW3 := Lib.hid (HW2.out.grown hgrow3 HW2.out.size (fun q hq => (HO2.out.lt q hq).1)); have HO3 := Lib.hid hown3; clear hown3 hgrow3 hnil3; obtain ⟨c0, c1, c2, c3, c4, c5, c6, c7⟩ := HCE.out _ HW3.out)
      refine (refDepth_walk (wt (tget ts j)) (tget ts j) _ q _ c' _ (Nat.le_refl _) (by have := HBD.out; omega) (HKI.out.below HW3.out)).mono ?_
      rintro e w4 ⟨rfl, hb4⟩
      have HW4 := Lib.hid (below_then HW3.out hb4 HW3.out.size)
      have HO4 := Lib.hid (own_below HO3.out hb4)
      have hx : depT (tget ts j) ≤ 8000 := by have := HD2.out; have := HBD.out; omega
      have hy : depK (ts.take j) ≤ 8000 := by have := HD1.out; have := HBD.out; omega
      clear hb4 c0 c1 c2 c3 c4 c5 c6 c7
      generalize hX : depT (tget ts j) = X at *
      generalize hY : depK (ts.take j) = Y at *
      have HX := Lib.hid hX; have HY := Lib.hid hY
      clear hX hY
      go_wp2
      go_roundw
      case rel => exact ⟨j + 1, xs ++ ys, by omega, by go_num, by rw [HDT.out]; exact val_i64 (by omega), Lib.hid (by rw [HWK.out]; exact HO4.out), Lib.hid (by rw [HFK.out]; exact HFL.out.append HF2.out), HW4⟩
      case measure => simp [intOf]; omega
    · obtain rfl : j = l := by omega
      have hall : ts.take j = ts := List.take_of_length_le (by rw [HL.out]; exact Nat.le_refl _)
      rw [hall]
      rw [hall] at HOWN HFL
      obtain ⟨a, cc, rfl, hcc, hncc⟩ := own_slice HOWN.out
      have hW8 := HW8.out
      have hdk : depK ts ≤ 8000 := by have := (dep_le (wts ts)).2 ts (Nat.le_refl _); omega
      clear hall
      go_wp2_with (fail)
      refine (kinds_walk ts p j d _ HL.out HLM.out (HK.out.stay HW.out) (by have := HW8.out; omega)).mono ?_
      rintro e w2 ⟨kv, rfl, hko, hb2⟩
      rw [kindsOf_len] at hko
      obtain ⟨ka, kc, rfl, hkc, hnkc⟩ := own_slice hko
      have HW2 := Lib.hid (below_then HW.out hb2 HW.out.size); have HO2 := Lib.hid (own_below HOWN.out hb2); have HK2 := Lib.hid hko
      clear hb2 hko
      go_wp2_with (fail)
      refine (size_walk ts p j d _ HL.out HLM.out (HK.out.stay HW2.out) (by have := HW8.out; omega)).mono ?_
      rintro e w3 ⟨rfl, hb3⟩
      have HW3 := Lib.hid (below_then HW2.out hb3 HW2.out.size); have HO3 := Lib.hid (own_below HO2.out hb3); have HK3 := Lib.hid (own_below HK2.out hb3)
      clear hb3
      go_wp2_with (fail)
      refine (depth_walk (wts ts) ts p j d _ (Nat.le_refl _) (by have := HW8.out; omega) HL.out HLM.out (HK.out.stay HW3.out)).mono ?_
      rintro e w4 ⟨rfl, hb4⟩
      have HW4 := Lib.hid (below_then HW3.out hb4 HW3.out.size); have HO4 := Lib.hid (own_below HO3.out hb4); have HK4 := Lib.hid (own_below HK3.out hb4)
      clear hb4
      have hH := fun W hk' => has_walk kind ts p j d W HL.out HLM.out hk'
      rw [← anyK_all] at hH
      have HH := Lib.hid hH
      have hfl := flatK_len ts
      have HFLEN := Lib.hid hfl
      have hn8 : wts ts ≤ 8000 := hW8
      clear hH hfl hW8
      generalize hN : wts ts = n at *
      have HN := Lib.hid hN
      clear hN
      go_wp2_with (fail)
      go_loopw [9, 10] (fun hs i wr => ∃ j : Nat, j ≤ n ∧ i = .int .i64 j ∧ hs = .bool (anyK kind (flatK ts) j) ∧ ∃ q, wr = w4.drewN q) (fun _ i _ => n - (intOf i).toNat)
      case atStart => exact ⟨0, Nat.zero_le _, rfl, by rw [anyK_zero], 0, rfl⟩
      case round =>
        obtain ⟨j2, hj2, rfl, rfl, q, rfl⟩ := hrel
        by_cases hlt2 : j2 < n
        · have hjf : j2 < (flatK ts).length := by rw [HFLEN.out]; exact hlt2
          obtain ⟨g, rfl⟩ := own_at HO4.out (by omega)
          obtain ⟨kg, rfl⟩ := own_at HK4.out (by omega)
          have k1 := row_cell HO4.out (flat_kind HFL.out hjf)
          have k2 := row_cell HK4.out (kinds_kind ts hjf)
          have hst := anyK_step (kind := kind) hjf
          have HST := Lib.hid hst
          clear hst hjf
          generalize hF : (tget (flatK ts) j2).h.k = fk at *
          have HF := Lib.hid hF
          clear hF
          have hi2 : (j2 : Int) < (n : Int) := by omega
          have hi3 : (0 : Int) ≤ (j2 : Int) := by omega
          cases ha : anyK kind (flatK ts) j2
          · by_cases hfk : fk = kind
            · have e1 : (fk == kind) = true := by simpa using hfk
              have hn : anyK kind (flatK ts) (j2 + 1) = true := by rw [HST.out, ha, decide_eq_true hfk]; rfl
              have HA := Lib.hid ha; have HNX := Lib.hid hn; have HFK := Lib.hid hfk
              clear ha hn hfk
              go_wp2_with (fail)
              go_quiet (fail)
              go_wp2_with (fail)
              go_roundw
              case rel => exact ⟨j2 + 1, by omega, by go_num, by rw [HNX.out], _, rfl⟩
              case measure => simp [intOf]; omega
            · have e1 : (fk == kind) = false := by simpa using hfk
              have hn : anyK kind (flatK ts) (j2 + 1) = false := by rw [HST.out, ha, decide_eq_false hfk]; rfl
              have HA := Lib.hid ha; have HNX := Lib.hid hn; have HFK := Lib.hid hfk
              clear ha hn hfk
              go_wp2_with (fail)
              go_quiet (fail)
              go_wp2_with (fail)
              go_roundw
              case rel => exact ⟨j2 + 1, by omega, by go_num, by rw [HNX.out], _, rfl⟩
              case measure => simp [intOf]; omega
          · have hn : anyK kind (flatK ts) (j2 + 1) = true := by rw [HST.out, ha]; rfl
            have HA := Lib.hid ha; have HNX := Lib.hid hn
            clear ha hn
            go_wp2_with (fail)
            go_quiet (fail)
            go_wp2_with (fail)
            go_roundw
            case rel => exact ⟨j2 + 1, by omega, by go_num, by rw [HNX.out], _, rfl⟩
            case measure => simp [intOf]; omega
        · obtain rfl : j2 = n := by omega
          have hq : ∀ B, Below B w4 (w4.drewN q) := fun B => ⟨rfl, rfl, rfl, by simp [World.drewN], fun _ _ => rfl⟩
          have HQ := Lib.hid hq
          clear hq
          cases ha : anyK kind (flatK ts) j2
          all_goals
            have hh := HH.out
            rw [ha] at hh
            have HH2 := Lib.hid hh
            clear ha hh
            go_wp2_with (fail)
            refine (HH2.out _ (HK.out.stay (HW4.out.trans (HQ.out _)))).mono ?_
            rintro e w5 ⟨rfl, hb5⟩
            have HW5 := Lib.hid (HW4.out.trans (below_then (HQ.out _) hb5 (HQ.out w.heap.size).size |>.mono HW4.out.size))
            clear hb5
            go_wp2_with (fail)
            refine (awake_walk _ (HKW.out.below HW5.out)).mono ?_
            rintro e w6 ⟨rfl, hb6⟩
            have HW6 := Lib.hid (below_then HW5.out hb6 HW5.out.size)
            clear hb6
            go_wp2
            go_ret
            exact ⟨rfl, HW6.out⟩
end Term
end Go.Proofs.YtpedmaomogigmaaDoor
