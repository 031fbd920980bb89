/-The walks of a number's digits: the document's. Are all atoms: the program's answer. The document's Text. The words of types with regions: mathematics. The program's writer: what it has, and how words are put. -/
import Derived.Test.YtabegjpledammaaGreatDoorGC03
import Derived.Lib.AppendIntMem
import Derived.Lib.LaidTab
import Derived.Lib.SmallJoins
import Derived.Laws.BytesArg
import Derived.LoopTactic
import Derived.Test.YtabegjpledammaaGreatDoorGC05
import Derived.Test.YtabegjpledammaaGreatDoorGC10
import Derived.Test.YtabegjpledammaaGreatDoorGC08
import Derived.Test.YtabegjpledammaaGreatDoorGC09
import Derived.OwnWalk
import Derived.Laws.AppendOwn
import Derived.Laws.AppendOwnNone
namespace Go.Proofs.YtabegjpledammaaGreatDoor
open Go.RowKit
set_option linter.unusedVariables false
namespace Effect

/-- A text of one byte. -/
def oneB (x : Int) : ByteArray := ⟨#[UInt8.ofNat x.toNat]⟩
theorem byte_back (w : World) (x : Int) :
    (convert 77 9 (.slice (some ⟨w.heap.size, 0, none⟩) 1 1)).run Tryz.prog (w.alloc (.cells #[.int .u8 x] 5)) = .ok (.string (oneB x)) (w.alloc (.cells #[.int .u8 x] 5)) := by
  have := run_convert_bytes_arg (P := Tryz.prog) (w.alloc (.cells #[.int .u8 x] 5)) 77 5 Tryz.underlying77 Tryz.underlying5 w.heap.size 0 1 1 [x] rfl (fun i hi => by
    have : i = 0 := by omega
    subst this
    simp [go_sem]) 9 Tryz.underlying9
  exact this

theorem dig_small (n : Int) (h0 : 0 ≤ n) (h : n < 10) : oneB (48 + n % 10) = ⟨(Lib.decDigits n.toNat).toArray⟩ := by
  unfold oneB
  rw [Lib.decDigits_one (by omega), show (48 + n % 10).toNat = 48 + n.toNat from by omega]
theorem dig_big (n : Int) (h : ¬ n < 10) : (⟨(Lib.decDigits (n / 10).toNat).toArray⟩ : ByteArray) ++ oneB (48 + n % 10) = ⟨(Lib.decDigits n.toNat).toArray⟩ := by
  apply bytes_ext
  rw [Lib.decDigits.eq_1 n.toNat, dif_neg (by omega)]
  unfold oneB
  rw [show (48 + n % 10).toNat = 48 + n.toNat % 10 from by omega, show (n / 10).toNat = n.toNat / 10 from by omega]
  simp [ByteArray.data_append]

theorem dig_add (n : Int) (h : ¬ n < 10) (h1 : n ≤ 9223372036854775807) (W : World) :
    (Op.stringOp .add (⟨(Lib.decDigits (n / 10).toNat).toArray⟩ : ByteArray) (oneB (48 + n % 10))).run Tryz.prog W = .ok (.string ⟨(Lib.decDigits n.toNat).toArray⟩) W := by
  rw [run_string_add_sum, dig_big n h]
  have e1 : (⟨(Lib.decDigits (n / 10).toNat).toArray⟩ : ByteArray).size = (Lib.decDigits (n / 10).toNat).length := by simp [ByteArray.size]
  have e2 : (oneB (48 + n % 10)).size = 1 := rfl
  have := Lib.nDigits_le20 (n / 10).toNat (by omega)
  rw [← Lib.decDigits_length] at this
  omega

set_option maxHeartbeats 400000 in
theorem refDigits_nat (k : Nat) : ∀ (n : Int) (w : World), n ≤ k → 0 ≤ n → n ≤ 9223372036854775807 →
    Calls Tryz.prog 35 #[.int .i64 n] w fun e w' => e = .returned (.string ⟨(Lib.decDigits n.toNat).toArray⟩) ∧ Below w.heap.size w w' := by
  induction k with
  | zero =>
    intro n w hk h0 h1
    have hbk := fun W => byte_back W (48 + n % 10)
    have hd := dig_small n h0 (by omega)
    have HD := Lib.hid hd; clear hd
    have hn : n < 10 := by omega
    go_enter Tryz.func35, Tryz.ntmps35
    go_wp2_with (fail)
    go_ret
    exact ⟨ret_str HD.out, (Below.refl _ _).alloc (Nat.le_refl _) _⟩
  | succ k ih =>
    intro n w hk h0 h1
    have hbk := fun W => byte_back W (48 + n % 10)
    by_cases hn : n < 10
    · have hd := dig_small n h0 hn
      have HD := Lib.hid hd
      clear hd ih
      go_enter Tryz.func35, Tryz.ntmps35
      go_wp2_with (fail)
      go_ret
      exact ⟨ret_str HD.out, (Below.refl _ _).alloc (Nat.le_refl _) _⟩
    · have hd := dig_add n hn h1
      have IH := Lib.hid ih
      clear ih
      go_enter Tryz.func35, Tryz.ntmps35
      go_wp2_with (fail)
      refine (IH.out (n / 10) _ (by omega) (by omega) (by omega)).mono ?_
      rintro e w' ⟨rfl, hb⟩
      have hb2 : Below w.heap.size w w' := ((Below.refl _ _).alloc (Nat.le_refl _) _).trans (hb.mono (by simp))
      have HB := Lib.hid hb2; clear hb hb2 hbk
      go_wp2
      go_ret
      exact ⟨rfl, HB.out⟩

/-! ### Of any int64 -/
def least : Int := -9223372036854775808
def leastText : ByteArray := ⟨#[45, 57, 50, 50, 51, 51, 55, 50, 48, 51, 54, 56, 53, 52, 55, 55, 53, 56, 48, 56]⟩
theorem least_itoa : leastText = ⟨(Lib.itoa least).toArray⟩ := by
  unfold least leastText Lib.itoa
  simp [Lib.decDigits]
theorem neg_add (n : Int) (h : n < 0) (h1 : -9223372036854775808 ≤ n) (W : World) :
    (Op.stringOp .add (⟨#[45]⟩ : ByteArray) (⟨(Lib.decDigits (-n).toNat).toArray⟩ : ByteArray)).run Tryz.prog W = .ok (.string ⟨(Lib.itoa n).toArray⟩) W := by
  rw [run_string_add_sum]
  · have : (⟨#[45]⟩ : ByteArray) ++ (⟨(Lib.decDigits (-n).toNat).toArray⟩ : ByteArray) = ⟨(Lib.itoa n).toArray⟩ := by
      apply bytes_ext
      unfold Lib.itoa
      rw [if_pos h, show n.natAbs = (-n).toNat from by omega]
      simp [ByteArray.data_append]
    rw [this]
  have e1 : (⟨(Lib.decDigits (-n).toNat).toArray⟩ : ByteArray).size = (Lib.decDigits (-n).toNat).length := by simp [ByteArray.size]
  have e2 : (⟨#[45]⟩ : ByteArray).size = 1 := rfl
  have := Lib.nDigits_le20 (-n).toNat (by omega)
  rw [← Lib.decDigits_length] at this
  omega

set_option maxHeartbeats 400000 in
theorem refDigits_walk (n : Int) (h0 : -9223372036854775808 ≤ n) (h1 : n ≤ 9223372036854775807) (w : World) :
    Calls Tryz.prog 35 #[.int .i64 n] w fun e w' => e = .returned (.string ⟨(Lib.itoa n).toArray⟩) ∧ Below w.heap.size w w' := by
  by_cases hn : n < 0
  · by_cases hm : n = least
    · have ht := least_itoa
      have hlt : least < 0 := by decide
      have HT := Lib.hid ht
      subst hm
      have e : (least == -9223372036854775808) = true := by decide
      clear ht h0 h1 hn
      go_enter Tryz.func35, Tryz.ntmps35
      go_wp2_with (fail)
      go_ret
      exact ⟨ret_str HT.out, Below.refl _ _⟩
    · have hd := neg_add n hn h0
      have hne : (n == -9223372036854775808) = false := by rw [beq_eq_false_iff_ne]; exact hm
      have hlo : -9223372036854775807 ≤ n := by unfold least at hm; omega
      have HM := Lib.hid hm
      clear hm h0
      go_enter Tryz.func35, Tryz.ntmps35
      go_wp2_with (fail)
      refine (refDigits_nat (-n).toNat (-n) _ (by omega) (by omega) (by omega)).mono ?_
      rintro e w' ⟨rfl, hb⟩
      have HB := Lib.hid hb; clear hb hne
      go_wp2
      go_ret
      exact ⟨rfl, HB.out⟩
  · refine (refDigits_nat n.toNat n w (by omega) (by omega) h1).mono ?_
    rintro e w' ⟨rfl, hb⟩
    refine ⟨ret_str ?_, hb⟩
    unfold Lib.itoa
    rw [if_neg hn]


end Effect
end Go.Proofs.YtabegjpledammaaGreatDoor
namespace Go.Proofs.YtabegjpledammaaGreatDoor
open Go.RowKit
set_option linter.unusedVariables false
set_option linter.unusedSimpArgs false
namespace Effect

end Effect
end Go.Proofs.YtabegjpledammaaGreatDoor
namespace Go.Proofs.YtabegjpledammaaGreatDoor
open Go.RowKit
set_option linter.unusedVariables false
set_option linter.unusedSimpArgs false
namespace Effect

theorem join_snoc (ss : List ByteArray) (s : ByteArray) : joinT (ss ++ [s]) = if ss = [] then s else joinT ss ++ sepW ++ s := by
  cases ss with
  | nil =>
    rw [if_pos rfl]
    apply bytes_ext
    unfold joinT
    simp [Lib.join_cons, Lib.joinTail]
  | cons x r =>
    rw [if_neg (by simp)]
    apply bytes_ext
    unfold joinT sepW
    simp [Lib.join_cons, Lib.joinTail, ByteArray.data_append]
theorem joinT_nil : joinT [] = ⟨#[]⟩ := by unfold joinT; simp [Lib.join_nil]
theorem joinT_size (ss : List ByteArray) (h : ∀ s ∈ ss, s.size ≤ 1004) : (joinT ss).size ≤ 1007 * ss.length := by
  have h1 : (joinT ss).size = (Lib.join (ss.map (·.data.toList)) [32, 44, 32]).length := by unfold joinT; simp [ByteArray.size]
  rw [h1]
  exact join_len ss h
set_option maxRecDepth 100000 in
set_option maxHeartbeats 12800000 in
theorem refText_walk {n c : Nat} {a : Option Addr} {l : List At} {w : World} (h : Rd w n a l) (hn : n ≤ 1000) (hsh : ∀ x ∈ ofA l, Sh x) : Calls Tryz.prog 36 #[.slice a n c] w fun e w' => e = .returned (.string (textE (ofA l))) ∧ Below w.heap.size w w' := by
  have HC := Lib.hid (refOf_walk (c := c) h (by omega)); have HSH := Lib.hid hsh
  have hat : ∀ x ∈ ofA l, atomB x = true := fun x hx => ((mem_of l x).1 hx).2
  clear h hsh
  generalize ofA l = u at *
  have HAT := Lib.hid hat
  clear hat
  go_enter Tryz.func36, Tryz.ntmps36
  go_wp2_with (fail)
  refine HC.out.mono ?_
  rintro e w1 ⟨a1, m, c1, rfl, hm, -, hr1, hb1⟩
  have HR := Lib.hid hr1; have HB := Lib.hid hb1; have HUL := Lib.hid hr1.len
  clear hr1 hb1
  go_wp2_with (fail)
  go_loopw [4, 5, 10] (fun out _ i wr => ∃ (j : Nat) (o : ByteArray), j ≤ m ∧ i = .int .i64 (j : Int) ∧ out = .string o ∧ Hid (o = joinT ((u.take j).map textA)) ∧ Hid (Below w1.heap.size w1 wr)) (fun _ _ i _ => m - (intOf i).toNat)
  case atStart => exact ⟨0, ⟨#[]⟩, Nat.zero_le _, rfl, rfl, Lib.hid (by rw [List.take_zero]; exact joinT_nil.symm), Lib.hid (Below.refl _ _)⟩
  case round =>
    obtain ⟨j, o, hj, rfl, rfl, HO, HS⟩ := hrel
    by_cases hlt : j < m
    · have hjl : j < u.length := by rw [HUL.out]; exact hlt
      obtain ⟨b, q, rfl, e0, e1, e2⟩ := (HR.out.at_.below HS.out).get j hjl
      have hx := HSH.out _ (aget_mem hjl)
      have hax := HAT.out _ (aget_mem hjl)
      have htk := at_take u j hjl
      have hall : ∀ t, ∀ s ∈ (u.take t).map textA, s.size ≤ 1004 := fun t s hs => by
        obtain ⟨y, hy, rfl⟩ := List.mem_map.1 hs
        exact textA_size (HSH.out y (List.mem_of_mem_take hy))
      have hs0 := joinT_size _ (hall j)
      have hs1 := joinT_size _ (hall (j + 1))
      rw [List.length_map, List.length_take] at hs0 hs1
      rw [← HO.out] at hs0
      generalize aget u j = x at *
      obtain ⟨p0, hp0⟩ : ∃ p0, (if j = 0 then o else o ++ sepW) = p0 := ⟨_, rfl⟩
      have hnx : joinT ((u.take (j + 1)).map textA) = p0 ++ textA x := by
        rw [htk, List.map_append, List.map_cons, List.map_nil, join_snoc, ← hp0]
        by_cases h0 : j = 0
        · subst h0
          have : o = ⟨#[]⟩ := by rw [HO.out, List.take_zero]; exact joinT_nil
          rw [if_pos (by simp), if_pos rfl, this]
          apply bytes_ext
          simp [ByteArray.data_append]
        · rw [if_neg (by
            intro e
            have := congrArg List.length e
            rw [List.length_map, List.length_take] at this
            rw [List.length_nil] at this
            omega), if_neg h0, ← HO.out]
      have hps : p0.size ≤ 1007 * 1000 + 3 := by
        rw [← hp0]
        have e3 : sepW.size = 3 := rfl
        split
        · omega
        · rw [ByteArray.size_append]; omega
      have HNX := Lib.hid hnx; have HSZ1 := Lib.hid (show (joinT ((u.take (j + 1)).map textA)).size ≤ 1007 * 1000 by omega)
      have HDG := Lib.hid fun W => refDigits_walk x.r (by have := hx.r0; omega) hx.r1 W
      have hds := digs_size x.r hx.r0 hx.r1
      have hxs := hx.x
      have hsep : j ≠ 0 → ∀ W, (Op.stringOp .add o ⟨#[32, 44, 32]⟩).run Tryz.prog W = .ok (.string p0) W := fun h0 W => add_run o sepW p0 (by rw [← hp0, if_neg h0]) (by omega) W
      have hst : j = 0 → p0 = o := fun h0 => by rw [← hp0, if_pos h0]
      have hk123 : x.k = 1 ∨ x.k = 2 ∨ x.k = 3 := by
        unfold atomB at hax
        by_cases h3 : x.k = 3
        · exact .inr (.inr h3)
        · rw [if_neg h3] at hax
          simp at hax
          omega
      have HSEP := Lib.hid hsep; have HST := Lib.hid hst
      clear hjl hx hax htk hall hs0 hs1 hp0 hnx hsep hst
      rcases hk123 with hk | hk | hk
      · have hk1 : (x.k == 1) = true := by simp; omega
        have hk2 : (x.k == 2) = false := by simp; omega
        have hk3 : (x.k == 3) = false := by simp; omega
        have HK := Lib.hid hk
        have hfin : p0 ++ getW ++ digs x.r = joinT ((u.take (j + 1)).map textA) := by rw [HNX.out]; unfold textA; rw [if_pos hk]; rw [ByteArray.append_assoc]
        have hsz0 : (getW : ByteArray).size = 4 := rfl
        have hr2 := add_run p0 getW _ rfl (by rw [ByteArray.size_append]; omega)
        have hr3 := add_run (p0 ++ getW) (digs x.r) _ hfin (by have := HSZ1.out; omega)
        unfold getW at hr2 hr3
        generalize ho2 : joinT ((u.take (j + 1)).map textA) = out2 at *
        have HO2 := Lib.hid ho2
        clear ho2
        clear hfin hk hds hxs hsz0
        have HDG2 := Lib.hid fun W => show Calls Tryz.prog 35 #[.int .i64 x.r] W fun e w' => e = .returned (.string (digs x.r)) ∧ Below W.heap.size W w' from HDG.out W
        generalize digs x.r = dg at *
        by_cases h0 : j = 0
        · have hpe := HST.out h0
          rw [hpe] at hr2 hr3
          have hjz : j < 1 := by omega
          clear hpe h0
          go_wp2_with (fail)
          refine (HDG2.out _).mono ?_
          rintro e w2 ⟨rfl, hb2⟩
          have HS2 := Lib.hid (below_then HS.out hb2 HS.out.size)
          have e0b := (hb2.cell (p := ⟨b, q + j * 3, none⟩) (World.block_lt_of_cell? wr _ e0)).trans e0
          clear hb2 e0 e1 e2
          go_wp2_with (fail)
          go_roundw
          case rel => exact ⟨j + 1, out2, by omega, by go_num, rfl, Lib.hid HO2.out.symm, HS2⟩
          case measure => simp [intOf]; omega
        · have hsp := HSEP.out h0
          have hjz : 0 < j := by omega
          clear h0
          go_wp2_with (fail)
          refine (HDG2.out _).mono ?_
          rintro e w2 ⟨rfl, hb2⟩
          have HS2 := Lib.hid (below_then HS.out hb2 HS.out.size)
          have e0b := (hb2.cell (p := ⟨b, q + j * 3, none⟩) (World.block_lt_of_cell? wr _ e0)).trans e0
          clear hb2 e0 e1 e2
          go_wp2_with (fail)
          go_roundw
          case rel => exact ⟨j + 1, out2, by omega, by go_num, rfl, Lib.hid HO2.out.symm, HS2⟩
          case measure => simp [intOf]; omega
      · have hk1 : (x.k == 1) = false := by simp; omega
        have hk2 : (x.k == 2) = true := by simp; omega
        have hk3 : (x.k == 3) = false := by simp; omega
        have HK := Lib.hid hk
        have hfin : p0 ++ putW ++ digs x.r = joinT ((u.take (j + 1)).map textA) := by rw [HNX.out]; unfold textA; rw [if_neg (by omega), if_pos hk]; rw [ByteArray.append_assoc]
        have hsz0 : (putW : ByteArray).size = 4 := rfl
        have hr2 := add_run p0 putW _ rfl (by rw [ByteArray.size_append]; omega)
        have hr3 := add_run (p0 ++ putW) (digs x.r) _ hfin (by have := HSZ1.out; omega)
        unfold putW at hr2 hr3
        generalize ho2 : joinT ((u.take (j + 1)).map textA) = out2 at *
        have HO2 := Lib.hid ho2
        clear ho2
        clear hfin hk hds hxs hsz0
        have HDG2 := Lib.hid fun W => show Calls Tryz.prog 35 #[.int .i64 x.r] W fun e w' => e = .returned (.string (digs x.r)) ∧ Below W.heap.size W w' from HDG.out W
        generalize digs x.r = dg at *
        by_cases h0 : j = 0
        · have hpe := HST.out h0
          rw [hpe] at hr2 hr3
          have hjz : j < 1 := by omega
          clear hpe h0
          go_wp2_with (fail)
          refine (HDG2.out _).mono ?_
          rintro e w2 ⟨rfl, hb2⟩
          have HS2 := Lib.hid (below_then HS.out hb2 HS.out.size)
          have e0b := (hb2.cell (p := ⟨b, q + j * 3, none⟩) (World.block_lt_of_cell? wr _ e0)).trans e0
          clear hb2 e0 e1 e2
          go_wp2_with (fail)
          go_roundw
          case rel => exact ⟨j + 1, out2, by omega, by go_num, rfl, Lib.hid HO2.out.symm, HS2⟩
          case measure => simp [intOf]; omega
        · have hsp := HSEP.out h0
          have hjz : 0 < j := by omega
          clear h0
          go_wp2_with (fail)
          refine (HDG2.out _).mono ?_
          rintro e w2 ⟨rfl, hb2⟩
          have HS2 := Lib.hid (below_then HS.out hb2 HS.out.size)
          have e0b := (hb2.cell (p := ⟨b, q + j * 3, none⟩) (World.block_lt_of_cell? wr _ e0)).trans e0
          clear hb2 e0 e1 e2
          go_wp2_with (fail)
          go_roundw
          case rel => exact ⟨j + 1, out2, by omega, by go_num, rfl, Lib.hid HO2.out.symm, HS2⟩
          case measure => simp [intOf]; omega
      · have hk1 : (x.k == 1) = false := by simp; omega
        have hk2 : (x.k == 2) = false := by simp; omega
        have hk3 : (x.k == 3) = true := by simp; omega
        have HK := Lib.hid hk
        have hfin : p0 ++ exnW ++ x.x = joinT ((u.take (j + 1)).map textA) := by rw [HNX.out]; unfold textA; rw [if_neg (by omega), if_neg (by omega)]; rw [ByteArray.append_assoc]
        have hsz0 : (exnW : ByteArray).size = 4 := rfl
        have hr2 := add_run p0 exnW _ rfl (by rw [ByteArray.size_append]; omega)
        have hr3 := add_run (p0 ++ exnW) (x.x) _ hfin (by have := HSZ1.out; omega)
        unfold exnW at hr2 hr3
        generalize ho2 : joinT ((u.take (j + 1)).map textA) = out2 at *
        have HO2 := Lib.hid ho2
        clear ho2
        clear hfin hk hds hxs hsz0
        by_cases h0 : j = 0
        · have hpe := HST.out h0
          rw [hpe] at hr2 hr3
          have hjz : j < 1 := by omega
          clear hpe h0
          go_wp2_with (fail)
          go_roundw
          case rel => exact ⟨j + 1, out2, by omega, by go_num, rfl, Lib.hid HO2.out.symm, HS⟩
          case measure => simp [intOf]; omega
        · have hsp := HSEP.out h0
          have hjz : 0 < j := by omega
          clear h0
          go_wp2_with (fail)
          go_roundw
          case rel => exact ⟨j + 1, out2, by omega, by go_num, rfl, Lib.hid HO2.out.symm, HS⟩
          case measure => simp [intOf]; omega
    · obtain rfl : j = m := by omega
      have ho := HO.out
      rw [List.take_of_length_le (by rw [HUL.out]; exact Nat.le_refl _)] at ho
      have HOF := Lib.hid ho
      have HBB := Lib.hid (below_then HB.out HS.out HB.out.size)
      clear ho
      by_cases h0 : j = 0
      · subst h0
        have HU := Lib.hid (List.eq_nil_of_length_eq_zero HUL.out)
        go_wp2_with (fail)
        go_ret
        exact ⟨ret_str (by unfold textE; rw [if_pos HU.out]; rfl), HBB.out⟩
      · have HU := Lib.hid (show u ≠ [] from fun e => h0 (by have := HUL.out; rw [e] at this; exact this.symm))
        go_wp2_with (fail)
        go_ret
        exact ⟨ret_str (by unfold textE; rw [if_neg HU.out]; exact HOF.out), HBB.out⟩
end Effect
end Go.Proofs.YtabegjpledammaaGreatDoor
namespace Go.Proofs.YtabegjpledammaaGreatDoor
open Go.RowKit
set_option linter.unusedVariables false
set_option linter.unusedSimpArgs false
namespace Rt
open Effect (At AtOk AtsAt Rd ofA textE Sh digs)
open Types (jb bl wInt wOpen wShut wStar wRef wArrow bl_jb bl_append bl_inj bl_app bl_cons bl_one jb_one jb_list)

def wAt : ByteArray := ⟨#[64]⟩
def wBang : ByteArray := ⟨#[33]⟩
def kw (ks : List (List ByteArray)) (i : Nat) : List ByteArray := ks.getD i []
def comb (h : Hd) (ks : List (List ByteArray)) : List ByteArray :=
  if h.k = 1 then [wInt] else wOpen :: ((if h.k = 2 then kw ks 0 ++ (wStar :: kw ks 1) else if h.k = 3 then wRef :: kw ks 0 else kw ks 0 ++ (wArrow :: (kw ks 1 ++ [wBang, textE (ofA h.e)]))) ++ [wAt, digs h.r, wShut])
mutual
/-- A type's words. -/
def wordsT : RT → List ByteArray
  | .node h l => comb h (wordsK l)
def wordsK : List RT → List (List ByteArray)
  | [] => []
  | t :: ts => wordsT t :: wordsK ts
end
theorem wordsT_eq (t : RT) : wordsT t = comb t.h (wordsK t.ks) := by cases t; conv => lhs; unfold wordsT
                                                                     rfl
theorem wordsK_map : ∀ ts : List RT, wordsK ts = ts.map wordsT
  | [] => by unfold wordsK; rfl
  | t :: ts => by unfold wordsK; rw [wordsK_map ts]; rfl
theorem kw_get {ts : List RT} {i : Nat} (h : i < ts.length) : kw (wordsK ts) i = wordsT (tget ts i) := by
  unfold kw tget
  rw [wordsK_map, List.getD_eq_getElem?_getD, List.getElem?_map, List.getElem?_eq_getElem h, List.getD_eq_getElem?_getD, List.getElem?_eq_getElem h]
  rfl
theorem words_pos : ∀ m : Nat, ∀ t, wt t ≤ m → mayT t = true → 1 ≤ (wordsT t).length ∧ (wordsT t).length ≤ 8 * wt t := by
  intro m
  induction m with
  | zero => intro t h; have := wt_pos t; omega
  | succ m ih =>
    intro t h hm
    obtain ⟨hk, -, -, -, -⟩ := may_node hm
    rw [wordsT_eq]
    unfold comb
    have hp := wt_pos t
    rcases hk with ⟨hk, hl, -⟩ | ⟨hk, hl⟩ | ⟨hk, hl⟩
    · simp [hk]; omega
    · have h0 := ih (tget t.ks 0) (by have := wt1 hl; omega) (may_kid hm (by omega))
      have hw := wt1 hl
      simp only [hk, kw_get (show 0 < t.ks.length by omega)]
      simp
      omega
    · have h0 := ih (tget t.ks 0) (by have := wt2 hl; omega) (may_kid hm (by omega))
      have h1 := ih (tget t.ks 1) (by have := wt2 hl; omega) (may_kid hm (by omega))
      have hw := wt2 hl
      rcases hk with hk | hk
      all_goals
        simp only [hk, kw_get (show 0 < t.ks.length by omega), kw_get (show 1 < t.ks.length by omega)]
        simp
        omega
theorem words_le {t : RT} (h : mayT t = true) : (wordsT t).length ≤ 8 * wt t := (words_pos _ t (Nat.le_refl _) h).2
theorem words_nil {t : RT} (h : mayT t = true) : wordsT t ≠ [] := by
  have := (words_pos _ t (Nat.le_refl _) h).1
  intro e
  rw [e] at this
  simp at this

/-- Words of up to n bytes. -/
def Short (n : Nat) (ss : List ByteArray) : Prop := ∀ s ∈ ss, s.size ≤ n
theorem Short.append {n : Nat} {a b : List ByteArray} (h : Short n a) (k : Short n b) : Short n (a ++ b) := fun s hs => by
  rcases List.mem_append.1 hs with hs | hs
  · exact h s hs
  · exact k s hs
theorem Short.cons {n : Nat} {x : ByteArray} {a : List ByteArray} (hx : x.size ≤ n) (h : Short n a) : Short n (x :: a) := fun s hs => by
  rcases List.mem_cons.1 hs with rfl | hs
  · exact hx
  · exact h s hs
theorem Short.nil (n : Nat) : Short n [] := fun s hs => by cases hs
theorem joinTail_len : ∀ r : List (List UInt8), (Lib.joinTail [32] r).length = (r.map (fun x => 1 + x.length)).sum
  | [] => rfl
  | x :: r => by
    have ih := joinTail_len r
    unfold Lib.joinTail at ih ⊢
    rw [List.map_cons, List.flatten_cons, List.length_append, ih, List.map_cons, List.sum_cons, List.length_append]
    rfl
theorem sum_len (n : Nat) : ∀ r : List ByteArray, (∀ s ∈ r, s.size ≤ n) → ((r.map (·.data.toList)).map (fun x => 1 + x.length)).sum ≤ (n + 1) * r.length
  | [], _ => Nat.le_refl _
  | y :: r, h => by
    have hy : y.data.toList.length ≤ n := h y (List.mem_cons_self ..)
    have ih := sum_len n r (fun s hs => h s (List.mem_cons_of_mem _ hs))
    rw [List.map_cons, List.map_cons, List.sum_cons]
    show 1 + y.data.toList.length + _ ≤ (n + 1) * (r.length + 1)
    rw [Nat.mul_succ]
    omega
theorem jb_size {n : Nat} (ss : List ByteArray) (h : Short n ss) : (jb ss).size ≤ (n + 1) * ss.length := by
  have e : (jb ss).size = (Lib.join (ss.map (·.data.toList)) [32]).length := by rw [← jb_list]; rfl
  rw [e]
  cases ss with
  | nil => simp [Lib.join_nil]
  | cons x r =>
    rw [List.map_cons, Lib.join_cons, List.length_append, joinTail_len]
    have hx : x.data.toList.length ≤ n := h x (List.mem_cons_self ..)
    have hr := sum_len n r (fun s hs => h s (List.mem_cons_of_mem _ hs))
    show _ ≤ (n + 1) * (r.length + 1)
    rw [Nat.mul_succ]
    omega
/-- An atom's text is short. -/
theorem sh_of {x : At} (hx : AtOk x) (ha : Effect.atomB x = true) {n : Nat} (hn : x.x.size ≤ n) (hnn : n ≤ 1000) : Sh x := by
  refine ⟨?_, hx.r.2, by omega⟩
  unfold Effect.atomB at ha
  split at ha
  · rw [Bool.and_eq_true] at ha
    have := of_decide_eq_true ha.1
    omega
  · rw [Bool.and_eq_true, Bool.and_eq_true] at ha
    exact of_decide_eq_true ha.1.2
theorem sh_eff {e : List At} (hok : ∀ x ∈ e, AtOk x) {n : Nat} (hn : ∀ x ∈ e, x.x.size ≤ n) (hnn : n ≤ 1000) : ∀ x ∈ ofA e, Sh x := fun x hx => by
  obtain ⟨h1, h2⟩ := (Effect.mem_of _ _).1 hx
  exact sh_of (hok x h1) h2 (hn x h1) hnn
theorem textE_size {e : List At} (h : ∀ x ∈ ofA e, Sh x) {n : Nat} (hn : e.length ≤ n) : (textE (ofA e)).size ≤ 1007 * n + 4 := by
  unfold textE
  split
  · show 4 ≤ _; omega
  · have h1 := Effect.joinT_size ((ofA e).map Effect.textA) (fun s hs => by
      obtain ⟨x, hx, rfl⟩ := List.mem_map.1 hs
      exact Effect.textA_size (h x hx))
    rw [List.length_map] at h1
    have h2 := Effect.of_le e
    have h3 : 1007 * (ofA e).length ≤ 1007 * n := Nat.mul_le_mul_left _ (by omega)
    omega
theorem words_short {n : Nat} (hnn : n ≤ 1000) : ∀ m : Nat, ∀ t : RT, wt t ≤ m → mayT t = true → allT (effB n) t = true → allT (fun h _ => decide (h.r ≤ 9223372036854775807 ∧ ∀ x ∈ h.e, x.r ≤ 9223372036854775807)) t = true → Short (1007 * n + 20) (wordsT t) := by
  intro m
  induction m with
  | zero => intro t h; have := wt_pos t; omega
  | succ m ih =>
    intro t h hm he hi
    obtain ⟨hk, hv, -, -, -⟩ := may_node hm
    have hi2 := hi
    rw [allT_eq, Bool.and_eq_true] at hi2
    have he2 := he
    rw [allT_eq, Bool.and_eq_true] at he2
    obtain ⟨hr, hx⟩ := of_decide_eq_true hi2.1
    obtain ⟨hel, hes⟩ := eff_iff.1 he2.1
    have hkid : ∀ i, i < t.ks.length → Short (1007 * n + 20) (wordsT (tget t.ks i)) := fun i hl => ih _ (by have := wts_get hl; have := wt_ks t; omega) (may_kid hm hl) (allK_get _ hl he2.2) (allK_get _ hl hi2.2)
    have hd : (digs t.h.r).size ≤ 1007 * n + 20 := by have := Effect.digs_size t.h.r hv hr; omega
    have hte : (textE (ofA t.h.e)).size ≤ 1007 * n + 20 := by
      have := textE_size (e := t.h.e) (fun x hx2 => by
        obtain ⟨h1, h2⟩ := (Effect.mem_of _ _).1 hx2
        refine ⟨?_, hx x h1, by have := hes x h1; omega⟩
        unfold Effect.atomB at h2
        split at h2
        · rw [Bool.and_eq_true] at h2; have := of_decide_eq_true h2.1; omega
        · rw [Bool.and_eq_true, Bool.and_eq_true] at h2; exact of_decide_eq_true h2.1.2) hel
      omega
    have htail : Short (1007 * n + 20) [wAt, digs t.h.r, wShut] := Short.cons (show (1 : Nat) ≤ _ by omega) (Short.cons hd (Short.cons (show (1 : Nat) ≤ _ by omega) (Short.nil _)))
    rw [wordsT_eq]
    unfold comb
    rcases hk with ⟨hk, hl, -⟩ | ⟨hk, hl⟩ | ⟨hk, hl⟩
    · rw [if_pos hk]; exact Short.cons (show (3 : Nat) ≤ _ by omega) (Short.nil _)
    · rw [if_neg (by omega), if_neg (by omega), if_pos hk, kw_get (show 0 < t.ks.length by omega)]
      exact Short.cons (show (1 : Nat) ≤ _ by omega) ((Short.cons (show (3 : Nat) ≤ _ by omega) (hkid 0 (by omega))).append htail)
    · rcases hk with hk | hk
      · rw [if_neg (by omega), if_pos hk, kw_get (show 0 < t.ks.length by omega), kw_get (show 1 < t.ks.length by omega)]
        exact Short.cons (show (1 : Nat) ≤ _ by omega) (((hkid 0 (by omega)).append (Short.cons (show (1 : Nat) ≤ _ by omega) (hkid 1 (by omega)))).append htail)
      · rw [if_neg (by omega), if_neg (by omega), if_neg (by omega), kw_get (show 0 < t.ks.length by omega), kw_get (show 1 < t.ks.length by omega)]
        exact Short.cons (show (1 : Nat) ≤ _ by omega) (((hkid 0 (by omega)).append (Short.cons (show (2 : Nat) ≤ _ by omega) ((hkid 1 (by omega)).append (Short.cons (show (1 : Nat) ≤ _ by omega) (Short.cons hte (Short.nil _)))))).append htail)
/-- Numbers of types that lie in memory are in range. -/
theorem in_range {w : World} {p : Option Addr} {ts : List RT} (h : Kids w p ts) : allK (fun h _ => decide (h.r ≤ 9223372036854775807 ∧ ∀ x ∈ h.e, x.r ≤ 9223372036854775807)) ts = true := by
  induction h with
  | nokids p => exact allK_nil _
  | atkids b o ts q c qe ce hh hc hl he hk ih =>
    have : ∀ us : List RT, (∀ u ∈ us, allT (fun h _ => decide (h.r ≤ 9223372036854775807 ∧ ∀ x ∈ h.e, x.r ≤ 9223372036854775807)) u = true) → allK (fun h _ => decide (h.r ≤ 9223372036854775807 ∧ ∀ x ∈ h.e, x.r ≤ 9223372036854775807)) us = true := by
      intro us
      induction us with
      | nil => intro _; exact allK_nil _
      | cons u us ihu => intro hu; rw [allK_cons, hu u List.mem_cons_self, ihu (fun x hx => hu x (List.mem_cons_of_mem _ hx))]; rfl
    refine this ts (fun u hu => ?_)
    obtain ⟨i, hi, e⟩ := List.getElem_of_mem hu
    have e2 : tget ts i = u := by
      have := tget_at hi
      rw [List.getElem?_eq_getElem hi, e] at this
      exact (Option.some.inj this).symm
    have := ih i hi
    rw [e2] at this
    have ho := hh i hi
    rw [e2] at ho
    rw [allT_eq, this, Bool.and_true]
    exact decide_eq_true ⟨ho.r.2, fun x hx => (ho.e x hx).r.2⟩
theorem in_rangeT {w : World} {h : Hd} {pe : Option Addr} {ne ce : Nat} {p : Option Addr} {l c : Nat} {t : RT} (hT : RtIs w h pe ne ce p l c t) : allT (fun h _ => decide (h.r ≤ 9223372036854775807 ∧ ∀ x ∈ h.e, x.r ≤ 9223372036854775807)) t = true := by
  rw [allT_eq, in_range hT.kids, hT.head, Bool.and_true]
  exact decide_eq_true ⟨hT.ok.r.2, fun x hx => (hT.ok.e x hx).r.2⟩
theorem text_size {w : World} {h : Hd} {pe : Option Addr} {ne ce : Nat} {p : Option Addr} {l c : Nat} {t : RT} (hT : RtIs w h pe ne ce p l c t) (hm : mayT t = true) {n : Nat} (hnn : n ≤ 1000) (he : allT (effB n) t = true) : (jb (wordsT t)).size ≤ (1007 * n + 21) * (8 * wt t) := by
  have h1 := jb_size _ (words_short hnn _ t (Nat.le_refl _) hm he (in_rangeT hT))
  have h2 := words_le hm
  exact Nat.le_trans h1 (Nat.mul_le_mul_left _ h2)
end Rt
end Go.Proofs.YtabegjpledammaaGreatDoor
namespace Go.Proofs.YtabegjpledammaaGreatDoor
open Go.RowKit
set_option linter.unusedVariables false
namespace Rt
open Effect (At AtOk AtsAt Rd ofA ret_i64 ret_bool lt_of_block heap_alloc_new own_slice)

def IsStrs (O : Option Obj) : Prop := ∃ cs fz, O = some (.cells cs 9 fz)
/-- What the writer's calls turn: its variable, in block N, rows of texts, and what is new. -/
structure Wrote (N : Nat) (w w' : World) : Prop where
  os : w'.os = w.os
  tape : w'.tape = w.tape
  output : w'.output = w.output
  size : w.heap.size ≤ w'.heap.size
  low : ∀ k, k < w.heap.size → k < N → w'.heap[k]? = w.heap[k]?
  high : ∀ k, k < w.heap.size → k ≠ N → ¬ IsStrs w.heap[k]? → w'.heap[k]? = w.heap[k]?
theorem Wrote.refl (N : Nat) (w : World) : Wrote N w w := ⟨rfl, rfl, rfl, Nat.le_refl _, fun _ _ _ => rfl, fun _ _ _ _ => rfl⟩
theorem Wrote.trans {N : Nat} {a b c : World} (h : Wrote N a b) (k : Wrote N b c) : Wrote N a c :=
  ⟨k.os.trans h.os, k.tape.trans h.tape, k.output.trans h.output, Nat.le_trans h.size k.size, fun i hi hn => (k.low i (Nat.lt_of_lt_of_le hi h.size) hn).trans (h.low i hi hn),
    fun i hi hn hs => (k.high i (Nat.lt_of_lt_of_le hi h.size) hn (by rw [h.high i hi hn hs]; exact hs)).trans (h.high i hi hn hs)⟩
theorem Wrote.of_below {N : Nat} {w w' : World} (h : Below w.heap.size w w') : Wrote N w w' := ⟨h.os, h.tape, h.output, h.size, fun k hk _ => h.block k hk, fun k hk _ _ => h.block k hk⟩
theorem Wrote.alloc {N : Nat} {w w' : World} (h : Wrote N w w') (O : Obj) : Wrote N w (w'.alloc O) := h.trans (Wrote.of_below ((Below.refl _ _).alloc (Nat.le_refl _) O))
theorem Wrote.below {N : Nat} {w w' : World} (h : Wrote N w w') {a : World} (ha : Below N a w) (hN : N ≤ a.heap.size) : Below N a w' :=
  ⟨h.os.trans ha.os, h.tape.trans ha.tape, h.output.trans ha.output, Nat.le_trans ha.size h.size, fun k hk => (h.low k (Nat.lt_of_lt_of_le (Nat.lt_of_lt_of_le hk hN) ha.size) hk).trans (ha.block k hk)⟩
/-- The writer's variable, in block N: the words that it has. -/
def WAt (N : Nat) (ss : List ByteArray) (w : World) : Prop :=
  ∃ v, w.heap[N]? = some (.cells #[v] 54 (0, 0)) ∧ w.ownsRow (N + 1) 9 1 v ss.length (ss.map Value.string)
theorem WAt.lt {N : Nat} {ss : List ByteArray} {w : World} (h : WAt N ss w) : N < w.heap.size := by obtain ⟨v, h, _⟩ := h; exact lt_of_block h
theorem WAt.alloc {N : Nat} {ss : List ByteArray} {w : World} (h : WAt N ss w) (O : Obj) : WAt N ss (w.alloc O) := by
  have hl := h.lt
  obtain ⟨v, h1, h2⟩ := h
  exact ⟨v, by rw [Below.heap_alloc _ _ _ hl]; exact h1, h2.alloc O⟩
theorem WAt.below {N : Nat} {ss : List ByteArray} {w w' : World} (h : WAt N ss w) (hb : Below w.heap.size w w') : WAt N ss w' := by
  have hl := h.lt
  obtain ⟨v, h1, h2⟩ := h
  refine ⟨v, by rw [hb.block _ hl]; exact h1, h2.kept (row := none) ⟨hb.os, hb.tape, hb.output, hb.size, fun k hk _ => hb.block k hk⟩ ?_⟩
  rcases hv : v.ownBlock with _ | g
  · exact .inl rfl
  · exact .inr (by simp)
theorem ownStrs {w : World} {B n : Nat} {v : Value} {xs : List Value} (h : w.ownsRow B 9 1 v n xs) {k : Nat} (hk : ¬ IsStrs w.heap[k]?) : some k ≠ v.ownBlock := by
  intro e
  rcases h.2 with ⟨rfl, _⟩ | ⟨g, cap, cur, rfl, _, hg, _⟩
  · simp [Value.ownBlock] at e
  · simp [Value.ownBlock] at e
    subst e
    exact hk ⟨_, _, hg⟩
theorem cells1_strs (ss : List ByteArray) : ∀ u ∈ ss.map Value.string, u.oneCell' = true := by
  intro u hu
  obtain ⟨x, _, rfl⟩ := List.mem_map.1 hu
  rfl
/-- 'append(words, src...)', words the writer's own, src any texts: none or not. -/
theorem append_strs {P : Program} {w : World} {ops : Array Oper} {rest : List Oper} {o : Oper} {a : Act} {Q : Exit → Act → World → Prop} (hgd : o.guard = none) (s x : Operand) (t : TypeId)
    (ho : o.op = .call { callee := .builtin .append, args := #[s, x], argTypes := #[t, t] })
    (base : Nat) (e : TypeId) (i : TypeInfo) (z : Value) (bytes : Nat) (ht : P.underlying t = some (.slice e)) (hi : P.info? e = some i) (hz : i.zero = some z)
    (hsize : i.size = 1) (hby : i.bytes = bytes) (hzs : z.cells.size = 1)
    (v : Value) (n : Nat) (xs : List Value) (hs : a.eval s = v) (hown : w.ownsRow base e 1 v n xs)
    (p : Option Addr) (m c : Nat) (ss : List ByteArray) (hx : a.eval x = .slice p m c) (hl : ss.length = m)
    (hsrc : (p = none ∧ m = 0 ∧ c = 0 ∧ ss = []) ∨ ∃ ad, p = some ad ∧ ∀ j u, (ss.map Value.string)[j]? = some u → w.cell? (ad.add j) = some u)
    (h63 : n + m ≤ maxLen) (hbytes : (n + m) * bytes ≤ 140737488355328) (hbase : base ≤ w.heap.size)
    (h : ∀ v' w', w'.ownsRow base e 1 v' (n + m) (xs ++ ss.map Value.string) → w.grownBy w' v.ownBlock → wpList P ops Q rest (a.put o.dst v') w') : wpList P ops Q (o :: rest) a w := by
  rcases hsrc with ⟨rfl, rfl, rfl, rfl⟩ | ⟨ad, rfl, hc⟩
  · refine wpList_append_own_none hgd s x t ho base e i 1 ht hi v n xs hs hown hx (h v w ?_ (World.grownBy.refl w _))
    rw [Nat.add_zero, List.map_nil, List.append_nil]
    exact hown
  · exact wpList_append_own w hgd s x t ho base e i z 1 bytes ht hi hz hsize hby hzs (by decide) v n xs hs hown ad m c (ss.map Value.string) hx (by rw [List.length_map, hl, Nat.mul_one]) hc (cells1_strs ss) h63 hbytes hbase (fun v' w' h1 h2 _ => h v' w' h1 h2)
/-- Texts that are handed in: none, or cells. -/
def Src (w : World) (p : Option Addr) (m c : Nat) (ts : List ByteArray) : Prop :=
  ts.length = m ∧ ((p = none ∧ m = 0 ∧ c = 0 ∧ ts = []) ∨ ∃ ad, p = some ad ∧ ∀ j u, (ts.map Value.string)[j]? = some u → w.cell? (ad.add j) = some u)
theorem Src.none (w : World) : Src w .none 0 0 [] := ⟨rfl, .inl ⟨rfl, rfl, rfl, rfl⟩⟩
theorem Src.new (w : World) (ts : List ByteArray) (ty : TypeId) (fz : Nat × Nat) : Src (w.alloc (.cells (ts.map Value.string).toArray ty fz)) (some ⟨w.heap.size, 0, .none⟩) ts.length ts.length ts := by
  refine ⟨rfl, .inr ⟨_, rfl, fun j u hu => ?_⟩⟩
  have e : (⟨w.heap.size, 0, Option.none⟩ : Addr).add j = ⟨w.heap.size, j, Option.none⟩ := by unfold Addr.add; split <;> simp_all
  rw [e]
  unfold World.cell?
  rw [heap_alloc_new]
  simpa using hu
theorem Src.below {w W : World} {p : Option Addr} {m c : Nat} {ts : List ByteArray} (h : Src w p m c ts) (hb : Below w.heap.size w W) : Src W p m c ts := by
  refine ⟨h.1, h.2.imp id ?_⟩
  rintro ⟨ad, hp, hc⟩
  refine ⟨ad, hp, fun j u hu => ?_⟩
  have := hc j u hu
  rw [hb.cell (World.block_lt_of_cell? w _ this)]
  exact this
theorem infoStr : (Tryz.prog.info? 9).map (fun i => (i.zero, i.size, i.bytes)) = some (some (.string ⟨#[]⟩), 1, 16) := by kernel_rfl
/-- How a call of the writer ends. -/
def WEnd (N : Nat) (ss : List ByteArray) (w : World) (e : Ending) (w' : World) : Prop := e = .returned (.tuple #[]) ∧ WAt N ss w' ∧ Wrote N w w'

set_option maxRecDepth 10000 in
set_option maxHeartbeats 1600000 in
theorem put_walk (N : Nat) (ss ts : List ByteArray) (p : Option Addr) (m c : Nat) (w : World) (hW : WAt N ss w) (hS : Src w p m c ts) (hm : ss.length + m ≤ 1000000) :
    Calls Tryz.prog 52 #[.pointer (some ⟨N, 0, none⟩), .slice p m c] w (WEnd N (ss ++ ts) w) := by
  obtain ⟨i0, hi, hz0, hz1, hz2⟩ := info_parts infoStr
  have hN := hW.lt
  obtain ⟨v, hB, hown⟩ := hW
  obtain ⟨va, vc, hv, _, _⟩ := own_slice hown
  subst hv
  have c0 : w.cell? ⟨N, 0, none⟩ = some (.slice va ss.length vc) := by simp [World.cell?, hB]
  have hfin : ∀ v' w', w'.ownsRow (N + 1) 9 1 v' (ss.length + m) (ss.map Value.string ++ ts.map Value.string) → w.grownBy w' (Value.slice va ss.length vc).ownBlock → w'.cell? ⟨N, 0, none⟩ = some (.slice va ss.length vc) ∧ w'.frozen? ⟨N, 0, none⟩ = false ∧ WEnd N (ss ++ ts) w (.returned (.tuple #[])) (w'.setCell ⟨N, 0, none⟩ v') := by
    intro v' w' h1 h2
    have hNv : some N ≠ (Value.slice va ss.length vc).ownBlock := by
      intro e
      have := (hown.lt N e.symm).1
      omega
    have hb' : w'.heap[N]? = some (.cells #[.slice va ss.length vc] 54 (0, 0)) := by rw [h2.block N hN hNv]; exact hB
    have hset : (w'.setCell ⟨N, 0, none⟩ v').heap[N]? = some (.cells #[v'] 54 (0, 0)) := by
      simp [World.setCell, Array.getElem?_modify, hb']
    have hoth : ∀ k, k ≠ N → (w'.setCell ⟨N, 0, none⟩ v').heap[k]? = w'.heap[k]? := fun k hk => Below.heap_setCell _ _ _ _ hk
    have hsz : (w'.setCell ⟨N, 0, none⟩ v').heap.size = w'.heap.size := by simp [World.setCell]
    refine ⟨by simp [World.cell?, hb'], by simp [World.frozen?, hb'], rfl, ⟨v', hset, ?_⟩, ⟨h2.os, h2.tape, h2.output, by rw [hsz]; exact h2.size, fun k hk hkN => ?_, fun k hk hkN hs => ?_⟩⟩
    · rw [List.length_append, hS.1, List.map_append]
      refine ⟨h1.1, h1.2.imp id ?_⟩
      rintro ⟨g, cap, cur, rfl, hg, hgg, rest⟩
      exact ⟨g, cap, cur, rfl, hg, by rw [hoth g (by omega)]; exact hgg, rest⟩
    · rw [hoth k (by omega)]
      exact h2.block k hk (fun e => by have := (hown.lt k e.symm).1; omega)
    · rw [hoth k hkN]
      exact h2.block k hk (ownStrs hown hs)
  have HF := Lib.hid hfin; have HO := Lib.hid hown; have HS := Lib.hid hS; have HM := Lib.hid hm
  have HI := Lib.hid hi; have HZ0 := Lib.hid hz0; have HZ1 := Lib.hid hz1; have HZ2 := Lib.hid hz2; have HN := Lib.hid hN
  clear hfin hown hS hm hi hz0 hz1 hz2 hB hN
  go_enter Tryz.func52, Tryz.ntmps52
  go_wp2_with (at_builtin; refine append_strs rfl (.tmp 8) (.tmp 9) 52 rfl (N + 1) 9 i0 (.string ⟨#[]⟩) 16 Tryz.underlying52 HI.out HZ0.out HZ1.out HZ2.out rfl (.slice va ss.length vc) _ _ rfl HO.out p m c ts rfl HS.out.1 HS.out.2 (by have := HM.out; unfold maxLen; omega) (by have := HM.out; omega) HN.out ?_; intro v3 w3 hown3 hgrow3; obtain ⟨a3, c3, rfl, _, _⟩ := own_slice hown3; obtain ⟨f0, f1, f2⟩ := HF.out _ w3 hown3 hgrow3; have HW := Lib.hid f2; clear hown3 hgrow3 f2)
  go_end0
  exact HW.out
end Rt
end Go.Proofs.YtabegjpledammaaGreatDoor
