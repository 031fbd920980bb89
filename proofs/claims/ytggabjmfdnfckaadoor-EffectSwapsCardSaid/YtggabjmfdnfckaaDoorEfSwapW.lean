/- The document's Swap; the walk of EffectSwaps. -/
import Derived.Test.YtggabjmfdnfckaaDoorEfSwap
namespace Go.Proofs.YtggabjmfdnfckaaDoor
open Go.RowKit
set_option linter.unusedVariables false
set_option linter.unusedSimpArgs false
namespace Effect

/-- What the document's loop makes of one. -/
def sw1 (f t : List Int) (o : List At) (x : At) : List At := if atomB x = true then putA o (swapA f t x) else o
theorem sw_of (f t : List Int) (l : List At) : l.foldl (sw1 f t) [] = ofA ((l.filter atomB).map (swapA f t)) := by
  have key : ∀ (l o : List At), l.foldl (sw1 f t) o = ((l.filter atomB).map (swapA f t)).foldl putA o := fun l => by
    induction l with
    | nil => intro o; rfl
    | cons x l ih =>
      intro o
      rw [List.foldl_cons, ih]
      unfold sw1
      cases hx : atomB x with
      | true => rw [List.filter_cons_of_pos hx]; rfl
      | false => rw [List.filter_cons_of_neg (by rw [hx]; simp)]; rfl
  exact key l []
theorem sw1_le (f t : List Int) (o : List At) (x : At) : (sw1 f t o x).length ≤ o.length + 1 := by
  unfold sw1
  split
  · exact putA_le _ _
  · omega
set_option maxRecDepth 100000 in
set_option maxHeartbeats 12800000 in
theorem refSwap_walk {n c nf cf nt ct : Nat} {a af at_ : Option Addr} {l : List At} {f t : List Int} {w : World} (h : Rd w n a l) (hf : RdI w nf af f) (ht : RdI w nt at_ t) (hn : n ≤ 10000) (hnf : nf ≤ 10000) (hnt : nt ≤ 10000) : Calls Tryd.prog 23 #[.slice a n c, .slice af nf cf, .slice at_ nt ct] w fun e w' => ∃ a' m c', e = .returned (.slice a' m c') ∧ m ≤ n ∧ Rd w' m a' (ofA ((l.filter atomB).map (swapA f t))) ∧ Below w.heap.size w w' := by
  have H := Lib.hid h; have HF := Lib.hid hf; have HT := Lib.hid ht
  clear h hf ht
  go_enter Tryd.func23, Tryd.ntmps23
  go_wp2_with (fail)
  go_loopw [7, 8, 9, 13] (fun own _ _ i wr => ∃ (j m c1 : Nat) (a1 : Option Addr) (o : List At), j ≤ n ∧ m ≤ j ∧ i = .int .i64 (j : Int) ∧ own = .slice a1 m c1 ∧ Hid (m = o.length) ∧ Hid (o = (l.take j).foldl (sw1 f t) []) ∧ Hid (∀ y ∈ o, y.x.size ≤ maxLen) ∧ Hid (Row w.heap.size wr (.slice a1 m c1) o) ∧ Hid (Below w.heap.size w wr)) (fun _ _ _ i _ => n - (intOf i).toNat)
  case atStart => exact ⟨0, 0, 0, some ⟨w.heap.size, 0, none⟩, [], Nat.zero_le _, Nat.le_refl _, rfl, rfl, Lib.hid rfl, Lib.hid (by simp), Lib.hid (fun y hy => by cases hy), Lib.hid (row_new (Nat.le_refl _)), Lib.hid (al_new _)⟩
  case round =>
    obtain ⟨j, m, c1, a1, o, hj, hmj, rfl, rfl, HM, HO, HOK, HRW, HS⟩ := hrel
    by_cases hlt : j < n
    · have hjl : j < l.length := by rw [H.out.len]; exact hlt
      obtain ⟨b, p, rfl, e0, e1, e2⟩ := (H.out.at_.below HS.out).get j hjl
      have hblk : b < wr.heap.size := World.block_lt_of_cell? wr _ e0
      have hx := H.out.ok _ (aget_mem hjl)
      have htk := at_take l j hjl
      generalize aget l j = x at *
      have HTK := Lib.hid htk; have HX := Lib.hid hx; have HE := Lib.hid (And.intro e0 (And.intro e1 e2)); have HBL := Lib.hid hblk
      have HAT := Lib.hid fun W => refAtom_walk x W hx
      clear htk hjl hx hblk
      go_wp2_with (fail)
      refine (HAT.out _).mono ?_
      rintro e w1 ⟨rfl, hb1⟩
      have hB1 : Below wr.heap.size wr w1 := (al_new _).trans (hb1.mono (by simp))
      have HBX := Lib.hid ((hb1.block wr.heap.size (by simp)).trans (heap_alloc_new wr _))
      have HB1 := Lib.hid hB1
      clear hb1 hB1 e0 e1 e2
      obtain ⟨⟨x0, x1, x2⟩, -, -⟩ := c3 HBX.out
      obtain ⟨e0, e1, e2⟩ := cells_below HE.out HBL.out HB1.out
      cases hat : atomB x
      · have HA := Lib.hid hat
        rw [hat] at HAT
        clear hat
        go_wp2_with (fail)
        refine (HAT.out _).mono ?_
        rintro e w2 ⟨rfl, hb2⟩
        have hB2 := below_then HB1.out hb2 HB1.out.size
        have HR2 := Lib.hid (HRW.out.below hB2); have HS2 := Lib.hid (below_then HS.out hB2 HS.out.size)
        clear hb2 hB2
        go_wp2_with (fail)
        go_roundw
        case rel => exact ⟨j + 1, m, c1, a1, o, by omega, by omega, by go_num, rfl, HM, Lib.hid (by rw [HTK.out, List.foldl_append, ← HO.out]; show o = sw1 f t o x; unfold sw1; rw [if_neg (by rw [HA.out]; simp)]), HOK, HR2, HS2⟩
        case measure => simp [intOf]; omega
      · have HA := Lib.hid hat
        rw [hat] at HAT
        clear hat
        by_cases hk : x.k = 3
        · have hkk : (x.k == 3) = true := by simpa using hk
          have HSW := Lib.hid (show sw1 f t o x = putA o x by unfold sw1 swapA; rw [if_pos HA.out, if_pos hk])
          clear hk
          go_wp2_with (fail)
          refine (HAT.out _).mono ?_
          rintro e w2 ⟨rfl, hb2⟩
          have hB2 := below_then HB1.out hb2 HB1.out.size
          have HR2 := Lib.hid (HRW.out.below hB2); have HS2 := Lib.hid (below_then HS.out hB2 HS.out.size)
          obtain ⟨⟨x0, x1, x2⟩, -, -⟩ := c3 ((hb2.block _ (lt_of_block HBX.out)).trans HBX.out)
          clear hb2 hB2
          have HP := Lib.hid (put_walk HR2.out HS2.out.size HOK.out HX.out (by omega))
          go_wp2_with (fail)
          refine HP.out.mono ?_
          rintro e w3 ⟨v, rfl, hr, hb3⟩
          obtain ⟨a2, c2, rfl⟩ := hr.slice
          have HR3 := Lib.hid hr; have HS3 := Lib.hid (below_then HS2.out hb3 HS2.out.size)
          have hle := putA_le o x
          rw [← HM.out] at hle
          generalize hm2 : (putA o x).length = m2 at *
          have HM2 := Lib.hid hm2
          clear hr hb3 hm2
          go_wp2_with (fail)
          go_roundw
          case rel => exact ⟨j + 1, m2, c2, a2, putA o x, by omega, by omega, by go_num, rfl, Lib.hid HM2.out.symm, Lib.hid (by rw [HTK.out, List.foldl_append, ← HO.out]; exact HSW.out.symm), Lib.hid (putA_ok HOK.out HX.out), HR3, HS3⟩
          case measure => simp [intOf]; omega
        · have hkk : (x.k == 3) = false := by simpa using hk
          have HSW := Lib.hid (show sw1 f t o x = putA o { x with r := turnI x.r f t } by unfold sw1 swapA; rw [if_pos HA.out, if_neg hk])
          have HTU := Lib.hid (refTurn_walk (c := cf) (d := ct) ((HF.out.below HS.out).below HB1.out) ((HT.out.below HS.out).below HB1.out) (by omega) (by omega) x.r)
          clear hk
          obtain ⟨-, ⟨f0, f1, f2⟩, -⟩ := c3 HBX.out
          go_wp2_with (fail)
          refine HTU.out.mono ?_
          rintro e w2 ⟨rfl, rfl⟩
          generalize turnI x.r f t = r at *
          have hBs : Below wr.heap.size wr (w2.setCell ⟨wr.heap.size, 1, none⟩ (.int .i64 r)) := HB1.out.setCell (Nat.le_refl _) _
          have HBs := Lib.hid hBs
          have HBX3 := Lib.hid (heap_setCell_same w2 wr.heap.size 1 _ _ (.int .i64 r) HBX.out)
          obtain ⟨e0, e1, e2⟩ := cells_below HE.out HBL.out hBs
          clear hBs
          go_wp2_with (fail)
          refine (HAT.out _).mono ?_
          rintro e w3 ⟨rfl, hb3⟩
          have hB3 := below_then HBs.out hb3 HBs.out.size
          have HR3 := Lib.hid (HRW.out.below hB3); have HS3 := Lib.hid (below_then HS.out hB3 HS.out.size)
          obtain ⟨⟨x0, x1, x2⟩, -, -⟩ := c3 ((hb3.block _ (lt_of_block HBX3.out)).trans HBX3.out)
          clear hb3 hB3
          have HP := Lib.hid (put_walk (x := { x with r := r }) HR3.out HS3.out.size HOK.out HX.out (by omega))
          go_wp2_with (fail)
          refine HP.out.mono ?_
          rintro e w4 ⟨v, rfl, hr, hb4⟩
          obtain ⟨a2, c2, rfl⟩ := hr.slice
          have HR4 := Lib.hid hr; have HS4 := Lib.hid (below_then HS3.out hb4 HS3.out.size)
          have hle := putA_le o { x with r := r }
          rw [← HM.out] at hle
          generalize hm2 : (putA o { x with r := r }).length = m2 at *
          have HM2 := Lib.hid hm2
          clear hr hb4 hm2
          go_wp2_with (fail)
          go_roundw
          case rel => exact ⟨j + 1, m2, c2, a2, putA o { x with r := r }, by omega, by omega, by go_num, rfl, Lib.hid HM2.out.symm, Lib.hid (by rw [HTK.out, List.foldl_append, ← HO.out]; exact HSW.out.symm), Lib.hid (putA_ok HOK.out HX.out), HR4, HS4⟩
          case measure => simp [intOf]; omega
    · obtain rfl : j = n := by omega
      have ho := HO.out
      rw [List.take_of_length_le (by rw [H.out.len]; exact Nat.le_refl _), sw_of] at ho
      have HOF := Lib.hid ho
      clear ho
      go_wp2_with (fail)
      go_ret
      refine ⟨a1, m, c1, rfl, hmj, by rw [← HOF.out]; exact Rd.of_row HRW.out HOK.out, HS.out⟩
set_option maxRecDepth 100000 in
set_option maxHeartbeats 12800000 in
theorem effectSwaps_walk (a af at_ : Option Addr) (n nf nt c cf ct : Nat) (l : List At) (f t : List Int) (w : World) (h : Rd w n a l) (hf : RdI w nf af f) (ht : RdI w nt at_ t) (hn : n ≤ maxLen) (hnf : nf ≤ maxLen) (hnt : nt ≤ maxLen) (hl : NumLaid w) : Calls Tryd.prog 5 #[.slice a n c, .slice af nf cf, .slice at_ nt ct] w fun e w' => e = .returned (.bool true) ∧ Below w.heap.size w w' := by
  have H := Lib.hid h; have HF := Lib.hid hf; have HT := Lib.hid ht; have HL := Lib.hid hl
  have HG1 := Lib.hid (great_walk (c := c) h hn)
  have HAW := Lib.hid (awake_walk w hl)
  unfold maxLen at hnf hnt
  clear h hf ht hl
  cases hg1 : greatB l with
  | true =>
    rw [hg1] at HG1
    clear hg1
    go_enter Tryd.func5, Tryd.ntmps5
    go_wp2_with (fail)
    refine HG1.out.mono ?_
    rintro e w1 ⟨rfl, rfl⟩
    go_wp2_with (fail)
    refine HAW.out.mono ?_
    rintro e w2 ⟨rfl, hb2⟩
    have HB2 := Lib.hid hb2
    clear hb2
    go_wp2_with (fail)
    go_ret
    exact ⟨rfl, HB2.out⟩
  | false =>
    have hn100 : n ≤ 100 := by have := (great_no hg1).1; rw [H.out.len] at this; exact this
    rw [hg1] at HG1
    clear hg1 hn
    by_cases hf1 : 100 < nf
    · clear hn100
      go_enter Tryd.func5, Tryd.ntmps5
      go_wp2_with (fail)
      refine HG1.out.mono ?_
      rintro e w1 ⟨rfl, rfl⟩
      go_wp2_with (fail)
      refine HAW.out.mono ?_
      rintro e w2 ⟨rfl, hb2⟩
      have HB2 := Lib.hid hb2
      clear hb2
      go_wp2_with (fail)
      go_ret
      exact ⟨rfl, HB2.out⟩
    · by_cases ht1 : 100 < nt
      · clear hn100
        go_enter Tryd.func5, Tryd.ntmps5
        go_wp2_with (fail)
        refine HG1.out.mono ?_
        rintro e w1 ⟨rfl, rfl⟩
        go_wp2_with (fail)
        refine HAW.out.mono ?_
        rintro e w2 ⟨rfl, hb2⟩
        have HB2 := Lib.hid hb2
        clear hb2
        go_wp2_with (fail)
        go_ret
        exact ⟨rfl, HB2.out⟩
      · have HS1 := Lib.hid (swap_walk (c := c) (cf := cf) (ct := ct) H.out HF.out HT.out (by omega) (by omega) (by omega))
        go_enter Tryd.func5, Tryd.ntmps5
        go_wp2_with (fail)
        refine HG1.out.mono ?_
        rintro e w1 ⟨rfl, rfl⟩
        go_wp2_with (fail)
        refine HS1.out.mono ?_
        rintro e w2 ⟨a2, m2, c2, rfl, hm2, hr2, hb2⟩
        have HR2 := Lib.hid hr2; have HB2 := Lib.hid hb2
        have HS2 := Lib.hid (refSwap_walk (c := c) (cf := cf) (ct := ct) (H.out.below hb2) (HF.out.below hb2) (HT.out.below hb2) (by omega) (by omega) (by omega))
        clear hr2 hb2
        go_wp2_with (fail)
        refine HS2.out.mono ?_
        rintro e w3 ⟨a3, m3, c3', rfl, hm3, hr3, hb3⟩
        have HB3 := Lib.hid (below_then HB2.out hb3 HB2.out.size)
        have HE := Lib.hid (refEqual_walk (c := c2) (d := c3') (HR2.out.below hb3) hr3 (by omega) (by omega))
        rw [decide_eq_true (swap_of f t l)] at HE
        clear hr3 hb3
        go_wp2_with (fail)
        refine HE.out.mono ?_
        rintro e w4 ⟨rfl, hb4⟩
        have HB4 := Lib.hid (below_then HB3.out hb4 HB3.out.size)
        have HS4 := Lib.hid (swap_walk (c := c) (cf := cf) (ct := cf) (H.out.below HB4.out) (HF.out.below HB4.out) (HF.out.below HB4.out) (by omega) (by omega) (by omega))
        clear hb4
        go_wp2_with (fail)
        refine HS4.out.mono ?_
        rintro e w5 ⟨a5, m5, c5, rfl, hm5, hr5, hb5⟩
        have HR5 := Lib.hid hr5; have HB5 := Lib.hid (below_then HB4.out hb5 HB4.out.size)
        have HO := Lib.hid (refOf_walk (c := c) (H.out.below HB5.out) (by omega))
        clear hr5 hb5
        go_wp2_with (fail)
        refine HO.out.mono ?_
        rintro e w6 ⟨a6, m6, c6, rfl, hm6, -, hr6, hb6⟩
        have HB6 := Lib.hid (below_then HB5.out hb6 HB5.out.size)
        have HE2 := Lib.hid (refEqual_walk (c := c5) (d := c6) (HR5.out.below hb6) hr6 (by omega) (by omega))
        rw [decide_eq_true (swap_own f l)] at HE2
        clear hr6 hb6
        go_wp2_with (fail)
        refine HE2.out.mono ?_
        rintro e w7 ⟨rfl, hb7⟩
        have HB7 := Lib.hid (below_then HB6.out hb7 HB6.out.size)
        have HAW2 := Lib.hid (awake_walk w7 (HL.out.below HB7.out))
        clear hb7
        go_wp2_with (fail)
        refine HAW2.out.mono ?_
        rintro e w8 ⟨rfl, hb8⟩
        have HB8 := Lib.hid (below_then HB7.out hb8 HB7.out.size)
        clear hb8
        go_wp2_with (fail)
        go_ret
        exact ⟨rfl, HB8.out⟩
end Effect
end Go.Proofs.YtggabjmfdnfckaaDoor
