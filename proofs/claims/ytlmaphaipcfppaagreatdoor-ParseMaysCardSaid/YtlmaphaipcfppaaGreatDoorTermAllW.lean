/- The walk of the document's row of all nodes: the loop. -/
import Derived.Test.YtlmaphaipcfppaaGreatDoorTermAll
namespace Go.Proofs.YtlmaphaipcfppaaGreatDoor
open Go.RowKit
set_option linter.unusedVariables false
namespace Term

theorem own_below {w W : World} {B e size n : Nat} {v : Value} {xs : List Value} (h : w.ownsRow B e size v n xs) (hb : Below w.heap.size w W) : W.ownsRow B e size v n xs :=
  h.kept (row := none) ⟨hb.os, hb.tape, hb.output, hb.size, fun q hq _ => hb.block q hq⟩ (by cases v.ownBlock <;> simp)

set_option maxRecDepth 10000 in
set_option maxHeartbeats 6400000 in
theorem refAll_walk : ∀ (m : Nat) (t : Tm) (h : Hd) (p : Option Addr) (l c : Nat) (w0 w : World), wt t ≤ m → wt t ≤ 1000000 → TmIs w0 h p l c t → Below w0.heap.size w0 w →
    Calls Tryz.prog 16 #[.agg #[.int .u8 h.k, .int .u8 h.op, .int .i64 h.pl, .int .i64 h.n, .string h.name, .string h.arg, .string h.exn, .slice p l c]] w fun e w' =>
      ∃ g c' xs, e = .returned (.slice (some ⟨g, 0, none⟩) (wt t) c') ∧ w'.ownsRow w.heap.size 29 8 (.slice (some ⟨g, 0, none⟩) (wt t) c') (wt t) xs ∧ Flat w0 xs (flatT t) ∧ Below w.heap.size w w' := by
  intro m
  induction m with
  | zero => intro t h p l c w0 w hm; have := wt_pos t; omega
  | succ m ih =>
    intro t h p l c w0 w hm hsz hT hb0
    obtain ⟨i0, hi, hz0, hz1, hz2⟩ := info_parts infoTerm
    have HI := Lib.hid hi; have HZ0 := Lib.hid hz0; have HZ1 := Lib.hid hz1; have HZ2 := Lib.hid hz2
    have hone := Flat.one hT
    have hhd := hT.head
    obtain ⟨k, op, pl, nn, nm, ar, ex⟩ := h
    have hlc : l ≤ 9223372036854775807 := by have := hT.cap; unfold maxLen at this; omega
    have hbox : ∀ O : Obj, Below w.heap.size w (w.alloc O) := fun O => (Below.refl _ _).alloc (Nat.le_refl _) _
    have hrow : ∀ w1 : World, w1.heap.size = w.heap.size + 1 → (w1.alloc (.cells #[.int .u8 k, .int .u8 op, .int .i64 pl, .int .i64 nn, .string nm, .string ar, .string ex, .slice p l c] 29)).ownsRow (w.heap.size + 1) 29 8 (.slice (some ⟨w.heap.size + 1, 0, none⟩) 1 1) 1 (tcells ⟨k, op, pl, nn, nm, ar, ex⟩ p l c) := fun w1 h1 => by
      have := World.ownsRow_lit (base := w.heap.size + 1) (e := 29) (size := 8) w1 #[.int .u8 k, .int .u8 op, .int .i64 pl, .int .i64 nn, .string nm, .string ar, .string ex, .slice p l c] 1 (by omega) (by unfold maxLen; omega) rfl
      rw [h1] at this
      exact this
    have HBOX := Lib.hid hbox; have IH := Lib.hid ih; have HT := Lib.hid hT; have HM := Lib.hid hm; have HSZ := Lib.hid hsz; have HB0 := Lib.hid hb0; have HROW := Lib.hid hrow; have HONE := Lib.hid hone; have HHD := Lib.hid hhd
    clear ih hT hm hbox hsz hb0 hrow hi hz0 hz1 hz2 hone hhd
    go_enter Tryz.func16, Tryz.ntmps16
    go_wp2_with (fail)
    go_loopw [3, 10] (fun v i wr => ∃ (j : Nat) (xs : List Value), j ≤ l ∧ i = .int .i64 j ∧ wr.ownsRow (w.heap.size + 1) 29 8 v (1 + wts (t.ks.take j)) xs ∧ Flat w0 xs (t :: flatK (t.ks.take j)) ∧
      Below (w.alloc (.cells #[.int .u8 k, .int .u8 op, .int .i64 pl, .int .i64 nn, .string nm, .string ar, .string ex, .slice p l c] 29)).heap.size (w.alloc (.cells #[.int .u8 k, .int .u8 op, .int .i64 pl, .int .i64 nn, .string nm, .string ar, .string ex, .slice p l c] 29)) wr) (fun _ i _ => l - (intOf i).toNat)
    case atStart =>
      refine ⟨0, _, Nat.zero_le _, rfl, HROW.out _ (by simp), ?_, (Below.refl _ _).alloc (Nat.le_refl _) _⟩
      rw [List.take_zero, flatK_nil]
      exact HONE.out
    case round =>
      obtain ⟨j, xs, hj, rfl, hown, hfl, hw⟩ := hrel
      have HW := Lib.hid hw; have HOWN := Lib.hid hown; have HFL := Lib.hid hfl
      have b7 := boxAt hw 7 rfl
      clear hw hown hfl
      have HWW := Lib.hid ((HBOX.out _).trans (HW.out.mono (HBOX.out _).size))
      by_cases hlt : j < l
      · have hjk : j < t.ks.length := by rw [HT.out.len]; exact hlt
        have hst := flatK_take t.ks j hjk
        have hsw := wts_take t.ks j hjk
        have hB0r := HB0.out.trans (HWW.out.mono HB0.out.size)
        obtain ⟨b, o, q, c', rfl, hkid0, c0, c1, c2, c3, c4, c5, c6, c7⟩ := HT.out.kids.get j hjk
        have hkid := hkid0
        have hkb : b < w0.heap.size := World.block_lt_of_cell? w0 _ c0
        have e0 := (hB0r.cell (p := ⟨b, o + j * 8, none⟩) hkb).trans c0
        have e1 := (hB0r.cell (p := ⟨b, o + j * 8 + 1, none⟩) hkb).trans c1
        have e2 := (hB0r.cell (p := ⟨b, o + j * 8 + 2, none⟩) hkb).trans c2
        have e3 := (hB0r.cell (p := ⟨b, o + j * 8 + 3, none⟩) hkb).trans c3
        have e4 := (hB0r.cell (p := ⟨b, o + j * 8 + 4, none⟩) hkb).trans c4
        have e5 := (hB0r.cell (p := ⟨b, o + j * 8 + 5, none⟩) hkb).trans c5
        have e6 := (hB0r.cell (p := ⟨b, o + j * 8 + 6, none⟩) hkb).trans c6
        have e7 := (hB0r.cell (p := ⟨b, o + j * 8 + 7, none⟩) hkb).trans c7
        have hwk := wts_get hjk
        have hwt := wt_ks t
        have hwl := wts_take_le t.ks (j + 1)
        have HST := Lib.hid hst; have HK := Lib.hid hkid; have HSW := Lib.hid hsw; have HWL := Lib.hid hwl; have HB0R := Lib.hid hB0r
        have HWK := Lib.hid hwk; have HWT := Lib.hid hwt
        clear hst hkid hkid0 hwk hwt hjk hsw hwl hkb c0 c1 c2 c3 c4 c5 c6 c7 hB0r
        go_wp2_with (fail)
        refine (IH.out (tget t.ks j) _ q _ c' w0 _ (by have := HM.out; have := HWK.out; have := HWT.out; omega) (by have := HSZ.out; have := HWK.out; have := HWT.out; omega) HK.out HB0R.out).mono ?_
        rintro e w2 ⟨g2, c2, ys, rfl, hown2, hfl2, hb2⟩
        have HW2 := Lib.hid (HW.out.trans (hb2.mono HW.out.size))
        have HO2 := Lib.hid (own_below HOWN.out hb2)
        have HC2 := Lib.hid (hown2.cells (g := g2) rfl)
        have HL2 := Lib.hid hown2.1
        have HF2 := Lib.hid hfl2
        have HBS := Lib.hid HW2.out.size
        clear hb2 hown2 hfl2 b7 e0 e1 e2 e3 e4 e5 e6 e7
        obtain ⟨X, hX⟩ : ∃ X, X = wt (tget t.ks j) := ⟨_, rfl⟩
        obtain ⟨Y, hY⟩ : ∃ Y, Y = wts (t.ks.take j) := ⟨_, rfl⟩
        have hbound : 1 + Y + X ≤ 1000000 := by
          have h1 := HSW.out; have h2 := HWL.out; have h3 := HWT.out; have h4 := HSZ.out
          omega
        rw [← hX] at HL2 ⊢
        rw [← hY] at HO2
        have HX := Lib.hid hX; have HY := Lib.hid hY; have HBD := Lib.hid hbound
        clear hX hY hbound
        go_wp2_with (at_builtin; refine wpList_append_own _ rfl (.tmp 13) (.tmp 19) 27 rfl (w.heap.size + 1) 29 i0 (.agg #[.int .u8 0, .int .u8 0, .int .i64 0, .int .i64 0, .string ⟨#[]⟩, .string ⟨#[]⟩, .string ⟨#[]⟩, .slice none 0 0]) 8 96 Tryz.underlying27 HI.out HZ0.out HZ1.out HZ2.out rfl (by decide) _ _ _ rfl HO2.out ⟨g2, 0, none⟩ X c2 ys rfl HL2.out HC2.out (Flat.cells1 HF2.out) (by have := HBD.out; unfold maxLen; omega) (by have := HBD.out; omega) (by have := HBS.out; simp at this; omega) ?_; intro v3 w3 hown3 hgrow3 hnil3; have AFT := Lib.hid (HW2.out.grown hgrow3 HBS.out (fun q hq => by have := (HO2.out.lt q hq).1; simp; omega)); have HO3 := Lib.hid hown3; clear hown3 hgrow3 hnil3)
        go_roundw
        case rel =>
          refine ⟨j + 1, xs ++ ys, by omega, by go_num, ?_, ?_, AFT.out⟩
          · rw [HSW.out, ← HX.out, ← HY.out, show 1 + (Y + X) = 1 + Y + X from by omega]; exact HO3.out
          · rw [HST.out]; exact HFL.out.append HF2.out
        case measure => simp [intOf]; omega
      · obtain rfl : j = l := by omega
        have hall : t.ks.take j = t.ks := List.take_of_length_le (by rw [HT.out.len]; exact Nat.le_refl _)
        have ho := HOWN.out
        have hf := HFL.out
        rw [hall] at ho hf
        rw [← flatT_eq] at hf
        have hwt := wt_ks t
        rw [show 1 + wts t.ks = wt t from by omega] at ho
        obtain ⟨g, cap, hv⟩ : ∃ g cap, u3 = .slice (some ⟨g, 0, none⟩) (wt t) cap := by
          rcases ho.2 with ⟨_, h0⟩ | ⟨g, cap, _, hv, _⟩
          · have := wt_pos t; omega
          · exact ⟨g, cap, hv⟩
        subst hv
        have HO := Lib.hid ho; have HF := Lib.hid hf
        clear ho hf hall hwt
        go_wp2_with (fail)
        go_ret
        refine ⟨g, cap, xs, rfl, ?_, HF.out, HWW.out⟩
        exact ⟨HO.out.1, HO.out.2.imp id (fun ⟨g, cap, cur, a, b, r⟩ => ⟨g, cap, cur, a, by omega, r⟩)⟩
end Term
end Go.Proofs.YtlmaphaipcfppaaGreatDoor
