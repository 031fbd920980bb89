/-The document's Rhos and Exns. -/
import Derived.Test.YtabegjpledammaaGreatDoorGC18
namespace Go.Proofs.YtabegjpledammaaGreatDoor
open Go.RowKit
set_option linter.unusedVariables false
set_option linter.unusedSimpArgs false
namespace Effect

def rho1 (o : List Int) (x : At) : List Int := if atomB x = true ∧ x.k ≠ 3 then putI o x.r else o
theorem rho_fold {l : List At} (h : ∀ x ∈ l, atomB x = true) : l.foldl rho1 [] = tidyI (rhosOf l) := by
  rw [tidy_fold]
  have key : ∀ (l : List At) (o : List Int), (∀ x ∈ l, atomB x = true) → l.foldl rho1 o = (rhosOf l).foldl putI o := fun l => by
    induction l with
    | nil => intro o _; rfl
    | cons x l ih =>
      intro o hl
      rw [List.foldl_cons, ih _ fun y hy => hl y (by simp [hy])]
      unfold rho1 rhosOf
      by_cases hk : x.k = 3
      · rw [if_neg (fun e => e.2 hk), List.filter_cons_of_neg (by simp [hk])]
      · rw [if_pos ⟨hl x (by simp), hk⟩, List.filter_cons_of_pos (by simp [hk])]; rfl
  exact key l [] h
theorem putI_ok {o : List Int} {x : Int} {lo hi : Int} (h : ∀ y ∈ o, lo ≤ y ∧ y ≤ hi) (hx : lo ≤ x ∧ x ≤ hi) : ∀ y ∈ putI o x, lo ≤ y ∧ y ≤ hi := fun y hy => by
  rcases (mem_putI o x y).1 hy with h1 | rfl
  · exact h y h1
  · exact hx
set_option maxRecDepth 100000 in
set_option maxHeartbeats 12800000 in
theorem refRhos_walk {n c : Nat} {a : Option Addr} {l : List At} {w : World} (h : Rd w n a l) (hr : ∀ x ∈ l, -9223372036854775808 ≤ x.r ∧ x.r ≤ 9223372036854775807) (hn : n ≤ 5000) : Calls Tryz.prog 22 #[.slice a n c] w fun e w' => ∃ a' m c', e = .returned (.slice a' m c') ∧ m ≤ n ∧ RdI w' m a' (l.foldl rho1 []) ∧ Below w.heap.size w w' := by
  have H := Lib.hid h; have HRR := Lib.hid hr
  clear h hr
  go_enter Tryz.func22, Tryz.ntmps22
  go_wp2_with (fail)
  go_loopw [3, 4, 8] (fun own _ i wr => ∃ (j m c1 : Nat) (a1 : Option Addr) (o : List Int), j ≤ n ∧ m ≤ j ∧ i = .int .i64 (j : Int) ∧ own = .slice a1 m c1 ∧ Hid (o = (l.take j).foldl rho1 []) ∧ Hid (∀ y ∈ o, -9223372036854775808 ≤ y ∧ y ≤ 9223372036854775807) ∧ Hid (Ixs w.heap.size wr (.slice a1 m c1) m o) ∧ Hid (Below w.heap.size w wr)) (fun _ _ i _ => n - (intOf i).toNat)
  case atStart => exact ⟨0, 0, 0, some ⟨w.heap.size, 0, none⟩, [], Nat.zero_le _, Nat.le_refl _, rfl, rfl, Lib.hid (by simp), Lib.hid (fun y hy => by cases hy), Lib.hid (ixs_new (Nat.le_refl _)), Lib.hid (al_new _)⟩
  case round =>
    obtain ⟨j, m, c1, a1, o, hj, hmj, rfl, rfl, HO, HOK, HRW, HS⟩ := hrel
    by_cases hlt : j < n
    · have hjl : j < l.length := by rw [H.out.len]; exact hlt
      obtain ⟨b, p, rfl, e0, e1, e2⟩ := (H.out.at_.below HS.out).get j hjl
      have hblk := World.block_lt_of_cell? wr _ e0
      have hx := H.out.ok _ (aget_mem hjl)
      have hxr := HRR.out _ (aget_mem hjl)
      have htk := at_take l j hjl
      generalize aget l j = x at *
      have HTK := Lib.hid htk; have HXR := Lib.hid hxr; have HE := Lib.hid (And.intro e0 (And.intro e1 e2))
      have HAT := Lib.hid (refAtom_walk x wr hx)
      have HBL := Lib.hid hblk
      clear htk hjl hx hxr hblk
      go_wp2_with (fail)
      refine HAT.out.mono ?_
      rintro e w2 ⟨rfl, hb2⟩
      obtain ⟨e0, e1, e2⟩ := cells_below HE.out HBL.out hb2
      have HR2 := Lib.hid (own_below HRW.out hb2); have HS2 := Lib.hid (below_then HS.out hb2 HS.out.size)
      clear hb2
      have skip : ¬ (atomB x = true ∧ x.k ≠ 3) → rho1 o x = o := fun h => by unfold rho1; rw [if_neg h]
      have HSK := Lib.hid skip
      clear skip
      cases hat : atomB x
      · have HQ := Lib.hid (HSK.out (by rw [hat]; simp))
        clear hat
        go_wp2_with (fail)
        go_roundw
        case rel => exact ⟨j + 1, m, c1, a1, o, by omega, by omega, by go_num, rfl, Lib.hid (by rw [HTK.out, List.foldl_append, ← HO.out]; exact HQ.out.symm), HOK, HR2, HS2⟩
        case measure => simp [intOf]; omega
      · by_cases hk : x.k = 3
        · have HQ := Lib.hid (HSK.out fun e => e.2 hk)
          have hkk : (x.k == 3) = true := by simpa using hk
          have hkn : (x.k != 3) = false := by rw [bne, hkk]; rfl
          clear hat hk
          go_wp2_with (fail)
          go_roundw
          case rel => exact ⟨j + 1, m, c1, a1, o, by omega, by omega, by go_num, rfl, Lib.hid (by rw [HTK.out, List.foldl_append, ← HO.out]; exact HQ.out.symm), HOK, HR2, HS2⟩
          case measure => simp [intOf]; omega
        · have HQ := Lib.hid (show rho1 o x = putI o x.r by unfold rho1; rw [if_pos ⟨hat, hk⟩])
          have hkk : (x.k == 3) = false := by simpa using hk
          have hkn : (x.k != 3) = true := by rw [bne, hkk]; rfl
          have HP := Lib.hid (refPutInt_walk (x := x.r) HR2.out HS2.out.size HOK.out (by omega))
          clear hat hk
          go_wp2_with (fail)
          refine HP.out.mono ?_
          rintro e w3 ⟨a3, m3, c3', rfl, hm3, hr3, hb3⟩
          have HR3 := Lib.hid hr3; have HS3 := Lib.hid (below_then HS2.out hb3 HS2.out.size)
          clear hr3 hb3
          go_wp2_with (fail)
          go_roundw
          case rel => exact ⟨j + 1, m3, c3', a3, putI o x.r, by omega, by omega, by go_num, rfl, Lib.hid (by rw [HTK.out, List.foldl_append, ← HO.out]; exact HQ.out.symm), Lib.hid (putI_ok HOK.out HXR.out), HR3, HS3⟩
          case measure => simp [intOf]; omega
    · obtain rfl : j = n := by omega
      have ho := HO.out
      rw [List.take_of_length_le (by rw [H.out.len]; exact Nat.le_refl _)] at ho
      have HOF := Lib.hid ho
      clear ho
      go_wp2_with (fail)
      go_ret
      exact ⟨a1, m, c1, rfl, hmj, by rw [← HOF.out]; exact RdI.of_own HRW.out HOK.out, HS.out⟩
end Effect
end Go.Proofs.YtabegjpledammaaGreatDoor
