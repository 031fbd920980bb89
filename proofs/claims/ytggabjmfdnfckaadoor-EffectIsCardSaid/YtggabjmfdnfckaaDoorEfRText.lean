/- The document's Text. -/
import Derived.Test.YtggabjmfdnfckaaDoorEfMay
import Derived.Test.YtggabjmfdnfckaaDoorEfAtom
namespace Go.Proofs.YtggabjmfdnfckaaDoor
open Go.RowKit
set_option linter.unusedVariables false
set_option linter.unusedSimpArgs false
namespace Effect

theorem join_snoc (ss : List ByteArray) (s : ByteArray) : joinT (ss ++ [s]) = if ss = [] then s else joinT ss ++ sepW ++ s := by
  cases ss with
  | nil =>
    rw [if_pos rfl]
    apply bytes_ext
    unfold joinT
    simp [Lib.join_cons, Lib.joinTail]
  | cons x r =>
    rw [if_neg (by simp)]
    apply bytes_ext
    unfold joinT sepW
    simp [Lib.join_cons, Lib.joinTail, ByteArray.data_append]
theorem joinT_nil : joinT [] = ⟨#[]⟩ := by unfold joinT; simp [Lib.join_nil]
theorem joinT_size (ss : List ByteArray) (h : ∀ s ∈ ss, s.size ≤ 1004) : (joinT ss).size ≤ 1007 * ss.length := by
  have h1 : (joinT ss).size = (Lib.join (ss.map (·.data.toList)) [32, 44, 32]).length := by unfold joinT; simp [ByteArray.size]
  rw [h1]
  exact join_len ss h
set_option maxRecDepth 100000 in
set_option maxHeartbeats 12800000 in
theorem refText_walk {n c : Nat} {a : Option Addr} {l : List At} {w : World} (h : Rd w n a l) (hn : n ≤ 1000) (hsh : ∀ x ∈ ofA l, Sh x) : Calls Tryd.prog 17 #[.slice a n c] w fun e w' => e = .returned (.string (textE (ofA l))) ∧ Below w.heap.size w w' := by
  have HC := Lib.hid (refOf_walk (c := c) h (by omega)); have HSH := Lib.hid hsh
  have hat : ∀ x ∈ ofA l, atomB x = true := fun x hx => ((mem_of l x).1 hx).2
  clear h hsh
  generalize ofA l = u at *
  have HAT := Lib.hid hat
  clear hat
  go_enter Tryd.func17, Tryd.ntmps17
  go_wp2_with (fail)
  refine HC.out.mono ?_
  rintro e w1 ⟨a1, m, c1, rfl, hm, -, hr1, hb1⟩
  have HR := Lib.hid hr1; have HB := Lib.hid hb1; have HUL := Lib.hid hr1.len
  clear hr1 hb1
  go_wp2_with (fail)
  go_loopw [4, 5, 10] (fun out _ i wr => ∃ (j : Nat) (o : ByteArray), j ≤ m ∧ i = .int .i64 (j : Int) ∧ out = .string o ∧ Hid (o = joinT ((u.take j).map textA)) ∧ Hid (Below w1.heap.size w1 wr)) (fun _ _ i _ => m - (intOf i).toNat)
  case atStart => exact ⟨0, ⟨#[]⟩, Nat.zero_le _, rfl, rfl, Lib.hid (by rw [List.take_zero]; exact joinT_nil.symm), Lib.hid (Below.refl _ _)⟩
  case round =>
    obtain ⟨j, o, hj, rfl, rfl, HO, HS⟩ := hrel
    by_cases hlt : j < m
    · have hjl : j < u.length := by rw [HUL.out]; exact hlt
      obtain ⟨b, q, rfl, e0, e1, e2⟩ := (HR.out.at_.below HS.out).get j hjl
      have hx := HSH.out _ (aget_mem hjl)
      have hax := HAT.out _ (aget_mem hjl)
      have htk := at_take u j hjl
      have hall : ∀ t, ∀ s ∈ (u.take t).map textA, s.size ≤ 1004 := fun t s hs => by
        obtain ⟨y, hy, rfl⟩ := List.mem_map.1 hs
        exact textA_size (HSH.out y (List.mem_of_mem_take hy))
      have hs0 := joinT_size _ (hall j)
      have hs1 := joinT_size _ (hall (j + 1))
      rw [List.length_map, List.length_take] at hs0 hs1
      rw [← HO.out] at hs0
      generalize aget u j = x at *
      obtain ⟨p0, hp0⟩ : ∃ p0, (if j = 0 then o else o ++ sepW) = p0 := ⟨_, rfl⟩
      have hnx : joinT ((u.take (j + 1)).map textA) = p0 ++ textA x := by
        rw [htk, List.map_append, List.map_cons, List.map_nil, join_snoc, ← hp0]
        by_cases h0 : j = 0
        · subst h0
          have : o = ⟨#[]⟩ := by rw [HO.out, List.take_zero]; exact joinT_nil
          rw [if_pos (by simp), if_pos rfl, this]
          apply bytes_ext
          simp [ByteArray.data_append]
        · rw [if_neg (by
            intro e
            have := congrArg List.length e
            rw [List.length_map, List.length_take] at this
            rw [List.length_nil] at this
            omega), if_neg h0, ← HO.out]
      have hps : p0.size ≤ 1007 * 1000 + 3 := by
        rw [← hp0]
        have e3 : sepW.size = 3 := rfl
        split
        · omega
        · rw [ByteArray.size_append]; omega
      have HNX := Lib.hid hnx; have HSZ1 := Lib.hid (show (joinT ((u.take (j + 1)).map textA)).size ≤ 1007 * 1000 by omega)
      have HDG := Lib.hid fun W => refDigits_walk x.r (by have := hx.r0; omega) hx.r1 W
      have hds := digs_size x.r hx.r0 hx.r1
      have hxs := hx.x
      have hsep : j ≠ 0 → ∀ W, (Op.stringOp .add o ⟨#[32, 44, 32]⟩).run Tryd.prog W = .ok (.string p0) W := fun h0 W => add_run o sepW p0 (by rw [← hp0, if_neg h0]) (by omega) W
      have hst : j = 0 → p0 = o := fun h0 => by rw [← hp0, if_pos h0]
      have hk123 : x.k = 1 ∨ x.k = 2 ∨ x.k = 3 := by
        unfold atomB at hax
        by_cases h3 : x.k = 3
        · exact .inr (.inr h3)
        · rw [if_neg h3] at hax
          simp at hax
          omega
      have HSEP := Lib.hid hsep; have HST := Lib.hid hst
      clear hjl hx hax htk hall hs0 hs1 hp0 hnx hsep hst
      rcases hk123 with hk | hk | hk
      · have hk1 : (x.k == 1) = true := by simp; omega
        have hk2 : (x.k == 2) = false := by simp; omega
        have hk3 : (x.k == 3) = false := by simp; omega
        have HK := Lib.hid hk
        have hfin : p0 ++ getW ++ digs x.r = joinT ((u.take (j + 1)).map textA) := by rw [HNX.out]; unfold textA; rw [if_pos hk]; rw [ByteArray.append_assoc]
        have hsz0 : (getW : ByteArray).size = 4 := rfl
        have hr2 := add_run p0 getW _ rfl (by rw [ByteArray.size_append]; omega)
        have hr3 := add_run (p0 ++ getW) (digs x.r) _ hfin (by have := HSZ1.out; omega)
        unfold getW at hr2 hr3
        generalize ho2 : joinT ((u.take (j + 1)).map textA) = out2 at *
        have HO2 := Lib.hid ho2
        clear ho2
        clear hfin hk hds hxs hsz0
        have HDG2 := Lib.hid fun W => show Calls Tryd.prog 40 #[.int .i64 x.r] W fun e w' => e = .returned (.string (digs x.r)) ∧ Below W.heap.size W w' from HDG.out W
        generalize digs x.r = dg at *
        by_cases h0 : j = 0
        · have hpe := HST.out h0
          rw [hpe] at hr2 hr3
          have hjz : j < 1 := by omega
          clear hpe h0
          go_wp2_with (fail)
          refine (HDG2.out _).mono ?_
          rintro e w2 ⟨rfl, hb2⟩
          have HS2 := Lib.hid (below_then HS.out hb2 HS.out.size)
          have e0b := (hb2.cell (p := ⟨b, q + j * 3, none⟩) (World.block_lt_of_cell? wr _ e0)).trans e0
          clear hb2 e0 e1 e2
          go_wp2_with (fail)
          go_roundw
          case rel => exact ⟨j + 1, out2, by omega, by go_num, rfl, Lib.hid HO2.out.symm, HS2⟩
          case measure => simp [intOf]; omega
        · have hsp := HSEP.out h0
          have hjz : 0 < j := by omega
          clear h0
          go_wp2_with (fail)
          refine (HDG2.out _).mono ?_
          rintro e w2 ⟨rfl, hb2⟩
          have HS2 := Lib.hid (below_then HS.out hb2 HS.out.size)
          have e0b := (hb2.cell (p := ⟨b, q + j * 3, none⟩) (World.block_lt_of_cell? wr _ e0)).trans e0
          clear hb2 e0 e1 e2
          go_wp2_with (fail)
          go_roundw
          case rel => exact ⟨j + 1, out2, by omega, by go_num, rfl, Lib.hid HO2.out.symm, HS2⟩
          case measure => simp [intOf]; omega
      · have hk1 : (x.k == 1) = false := by simp; omega
        have hk2 : (x.k == 2) = true := by simp; omega
        have hk3 : (x.k == 3) = false := by simp; omega
        have HK := Lib.hid hk
        have hfin : p0 ++ putW ++ digs x.r = joinT ((u.take (j + 1)).map textA) := by rw [HNX.out]; unfold textA; rw [if_neg (by omega), if_pos hk]; rw [ByteArray.append_assoc]
        have hsz0 : (putW : ByteArray).size = 4 := rfl
        have hr2 := add_run p0 putW _ rfl (by rw [ByteArray.size_append]; omega)
        have hr3 := add_run (p0 ++ putW) (digs x.r) _ hfin (by have := HSZ1.out; omega)
        unfold putW at hr2 hr3
        generalize ho2 : joinT ((u.take (j + 1)).map textA) = out2 at *
        have HO2 := Lib.hid ho2
        clear ho2
        clear hfin hk hds hxs hsz0
        have HDG2 := Lib.hid fun W => show Calls Tryd.prog 40 #[.int .i64 x.r] W fun e w' => e = .returned (.string (digs x.r)) ∧ Below W.heap.size W w' from HDG.out W
        generalize digs x.r = dg at *
        by_cases h0 : j = 0
        · have hpe := HST.out h0
          rw [hpe] at hr2 hr3
          have hjz : j < 1 := by omega
          clear hpe h0
          go_wp2_with (fail)
          refine (HDG2.out _).mono ?_
          rintro e w2 ⟨rfl, hb2⟩
          have HS2 := Lib.hid (below_then HS.out hb2 HS.out.size)
          have e0b := (hb2.cell (p := ⟨b, q + j * 3, none⟩) (World.block_lt_of_cell? wr _ e0)).trans e0
          clear hb2 e0 e1 e2
          go_wp2_with (fail)
          go_roundw
          case rel => exact ⟨j + 1, out2, by omega, by go_num, rfl, Lib.hid HO2.out.symm, HS2⟩
          case measure => simp [intOf]; omega
        · have hsp := HSEP.out h0
          have hjz : 0 < j := by omega
          clear h0
          go_wp2_with (fail)
          refine (HDG2.out _).mono ?_
          rintro e w2 ⟨rfl, hb2⟩
          have HS2 := Lib.hid (below_then HS.out hb2 HS.out.size)
          have e0b := (hb2.cell (p := ⟨b, q + j * 3, none⟩) (World.block_lt_of_cell? wr _ e0)).trans e0
          clear hb2 e0 e1 e2
          go_wp2_with (fail)
          go_roundw
          case rel => exact ⟨j + 1, out2, by omega, by go_num, rfl, Lib.hid HO2.out.symm, HS2⟩
          case measure => simp [intOf]; omega
      · have hk1 : (x.k == 1) = false := by simp; omega
        have hk2 : (x.k == 2) = false := by simp; omega
        have hk3 : (x.k == 3) = true := by simp; omega
        have HK := Lib.hid hk
        have hfin : p0 ++ exnW ++ x.x = joinT ((u.take (j + 1)).map textA) := by rw [HNX.out]; unfold textA; rw [if_neg (by omega), if_neg (by omega)]; rw [ByteArray.append_assoc]
        have hsz0 : (exnW : ByteArray).size = 4 := rfl
        have hr2 := add_run p0 exnW _ rfl (by rw [ByteArray.size_append]; omega)
        have hr3 := add_run (p0 ++ exnW) (x.x) _ hfin (by have := HSZ1.out; omega)
        unfold exnW at hr2 hr3
        generalize ho2 : joinT ((u.take (j + 1)).map textA) = out2 at *
        have HO2 := Lib.hid ho2
        clear ho2
        clear hfin hk hds hxs hsz0
        by_cases h0 : j = 0
        · have hpe := HST.out h0
          rw [hpe] at hr2 hr3
          have hjz : j < 1 := by omega
          clear hpe h0
          go_wp2_with (fail)
          go_roundw
          case rel => exact ⟨j + 1, out2, by omega, by go_num, rfl, Lib.hid HO2.out.symm, HS⟩
          case measure => simp [intOf]; omega
        · have hsp := HSEP.out h0
          have hjz : 0 < j := by omega
          clear h0
          go_wp2_with (fail)
          go_roundw
          case rel => exact ⟨j + 1, out2, by omega, by go_num, rfl, Lib.hid HO2.out.symm, HS⟩
          case measure => simp [intOf]; omega
    · obtain rfl : j = m := by omega
      have ho := HO.out
      rw [List.take_of_length_le (by rw [HUL.out]; exact Nat.le_refl _)] at ho
      have HOF := Lib.hid ho
      have HBB := Lib.hid (below_then HB.out HS.out HB.out.size)
      clear ho
      by_cases h0 : j = 0
      · subst h0
        have HU := Lib.hid (List.eq_nil_of_length_eq_zero HUL.out)
        go_wp2_with (fail)
        go_ret
        exact ⟨ret_str (by unfold textE; rw [if_pos HU.out]; rfl), HBB.out⟩
      · have HU := Lib.hid (show u ≠ [] from fun e => h0 (by have := HUL.out; rw [e] at this; exact this.symm))
        go_wp2_with (fail)
        go_ret
        exact ⟨ret_str (by unfold textE; rw [if_neg HU.out]; exact HOF.out), HBB.out⟩
end Effect
end Go.Proofs.YtggabjmfdnfckaaDoor
