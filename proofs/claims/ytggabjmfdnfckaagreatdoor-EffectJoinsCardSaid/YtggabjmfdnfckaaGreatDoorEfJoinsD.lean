/- The document's Rhos and Exns. -/
import Derived.Test.YtggabjmfdnfckaaGreatDoorEfJoinsC
namespace Go.Proofs.YtggabjmfdnfckaaGreatDoor
open Go.RowKit
set_option linter.unusedVariables false
set_option linter.unusedSimpArgs false
namespace Effect

def rho1 (o : List Int) (x : At) : List Int := if atomB x = true ∧ x.k ≠ 3 then putI o x.r else o
theorem rho_fold {l : List At} (h : ∀ x ∈ l, atomB x = true) : l.foldl rho1 [] = tidyI (rhosOf l) := by
  rw [tidy_fold]
  have key : ∀ (l : List At) (o : List Int), (∀ x ∈ l, atomB x = true) → l.foldl rho1 o = (rhosOf l).foldl putI o := fun l => by
    induction l with
    | nil => intro o _; rfl
    | cons x l ih =>
      intro o hl
      rw [List.foldl_cons, ih _ fun y hy => hl y (by simp [hy])]
      unfold rho1 rhosOf
      by_cases hk : x.k = 3
      · rw [if_neg (fun e => e.2 hk), List.filter_cons_of_neg (by simp [hk])]
      · rw [if_pos ⟨hl x (by simp), hk⟩, List.filter_cons_of_pos (by simp [hk])]; rfl
  exact key l [] h
theorem putI_ok {o : List Int} {x : Int} {lo hi : Int} (h : ∀ y ∈ o, lo ≤ y ∧ y ≤ hi) (hx : lo ≤ x ∧ x ≤ hi) : ∀ y ∈ putI o x, lo ≤ y ∧ y ≤ hi := fun y hy => by
  rcases (mem_putI o x y).1 hy with h1 | rfl
  · exact h y h1
  · exact hx
set_option maxRecDepth 100000 in
set_option maxHeartbeats 12800000 in
theorem refRhos_walk {n c : Nat} {a : Option Addr} {l : List At} {w : World} (h : Rd w n a l) (hr : ∀ x ∈ l, -9223372036854775808 ≤ x.r ∧ x.r ≤ 9223372036854775807) (hn : n ≤ 5000) : Calls Tryz.prog 12 #[.slice a n c] w fun e w' => ∃ a' m c', e = .returned (.slice a' m c') ∧ m ≤ n ∧ RdI w' m a' (l.foldl rho1 []) ∧ Below w.heap.size w w' := by
  have H := Lib.hid h; have HRR := Lib.hid hr
  clear h hr
  go_enter Tryz.func12, Tryz.ntmps12
  go_wp2_with (fail)
  go_loopw [3, 4, 8] (fun own _ i wr => ∃ (j m c1 : Nat) (a1 : Option Addr) (o : List Int), j ≤ n ∧ m ≤ j ∧ i = .int .i64 (j : Int) ∧ own = .slice a1 m c1 ∧ Hid (o = (l.take j).foldl rho1 []) ∧ Hid (∀ y ∈ o, -9223372036854775808 ≤ y ∧ y ≤ 9223372036854775807) ∧ Hid (Ixs w.heap.size wr (.slice a1 m c1) m o) ∧ Hid (Below w.heap.size w wr)) (fun _ _ i _ => n - (intOf i).toNat)
  case atStart => exact ⟨0, 0, 0, some ⟨w.heap.size, 0, none⟩, [], Nat.zero_le _, Nat.le_refl _, rfl, rfl, Lib.hid (by simp), Lib.hid (fun y hy => by cases hy), Lib.hid (ixs_new (Nat.le_refl _)), Lib.hid (al_new _)⟩
  case round =>
    obtain ⟨j, m, c1, a1, o, hj, hmj, rfl, rfl, HO, HOK, HRW, HS⟩ := hrel
    by_cases hlt : j < n
    · have hjl : j < l.length := by rw [H.out.len]; exact hlt
      obtain ⟨b, p, rfl, e0, e1, e2⟩ := (H.out.at_.below HS.out).get j hjl
      have hblk := World.block_lt_of_cell? wr _ e0
      have hx := H.out.ok _ (aget_mem hjl)
      have hxr := HRR.out _ (aget_mem hjl)
      have htk := at_take l j hjl
      generalize aget l j = x at *
      have HTK := Lib.hid htk; have HXR := Lib.hid hxr; have HE := Lib.hid (And.intro e0 (And.intro e1 e2))
      have HAT := Lib.hid (refAtom_walk x wr hx)
      have HBL := Lib.hid hblk
      clear htk hjl hx hxr hblk
      go_wp2_with (fail)
      refine HAT.out.mono ?_
      rintro e w2 ⟨rfl, hb2⟩
      obtain ⟨e0, e1, e2⟩ := cells_below HE.out HBL.out hb2
      have HR2 := Lib.hid (own_below HRW.out hb2); have HS2 := Lib.hid (below_then HS.out hb2 HS.out.size)
      clear hb2
      have skip : ¬ (atomB x = true ∧ x.k ≠ 3) → rho1 o x = o := fun h => by unfold rho1; rw [if_neg h]
      have HSK := Lib.hid skip
      clear skip
      cases hat : atomB x
      · have HQ := Lib.hid (HSK.out (by rw [hat]; simp))
        clear hat
        go_wp2_with (fail)
        go_roundw
        case rel => exact ⟨j + 1, m, c1, a1, o, by omega, by omega, by go_num, rfl, Lib.hid (by rw [HTK.out, List.foldl_append, ← HO.out]; exact HQ.out.symm), HOK, HR2, HS2⟩
        case measure => simp [intOf]; omega
      · by_cases hk : x.k = 3
        · have HQ := Lib.hid (HSK.out fun e => e.2 hk)
          have hkk : (x.k == 3) = true := by simpa using hk
          have hkn : (x.k != 3) = false := by rw [bne, hkk]; rfl
          clear hat hk
          go_wp2_with (fail)
          go_roundw
          case rel => exact ⟨j + 1, m, c1, a1, o, by omega, by omega, by go_num, rfl, Lib.hid (by rw [HTK.out, List.foldl_append, ← HO.out]; exact HQ.out.symm), HOK, HR2, HS2⟩
          case measure => simp [intOf]; omega
        · have HQ := Lib.hid (show rho1 o x = putI o x.r by unfold rho1; rw [if_pos ⟨hat, hk⟩])
          have hkk : (x.k == 3) = false := by simpa using hk
          have hkn : (x.k != 3) = true := by rw [bne, hkk]; rfl
          have HP := Lib.hid (refPutInt_walk (x := x.r) HR2.out HS2.out.size HOK.out (by omega))
          clear hat hk
          go_wp2_with (fail)
          refine HP.out.mono ?_
          rintro e w3 ⟨a3, m3, c3', rfl, hm3, hr3, hb3⟩
          have HR3 := Lib.hid hr3; have HS3 := Lib.hid (below_then HS2.out hb3 HS2.out.size)
          clear hr3 hb3
          go_wp2_with (fail)
          go_roundw
          case rel => exact ⟨j + 1, m3, c3', a3, putI o x.r, by omega, by omega, by go_num, rfl, Lib.hid (by rw [HTK.out, List.foldl_append, ← HO.out]; exact HQ.out.symm), Lib.hid (putI_ok HOK.out HXR.out), HR3, HS3⟩
          case measure => simp [intOf]; omega
    · obtain rfl : j = n := by omega
      have ho := HO.out
      rw [List.take_of_length_le (by rw [H.out.len]; exact Nat.le_refl _)] at ho
      have HOF := Lib.hid ho
      clear ho
      go_wp2_with (fail)
      go_ret
      exact ⟨a1, m, c1, rfl, hmj, by rw [← HOF.out]; exact RdI.of_own HRW.out HOK.out, HS.out⟩
theorem txs_new {B : Nat} {w : World} (hB : B ≤ w.heap.size) : Txs B (w.alloc (.cells #[] 9)) (.slice (some ⟨w.heap.size, 0, none⟩) 0 0) 0 [] :=
  ⟨rfl, .inr ⟨w.heap.size, 0, #[], rfl, hB, heap_alloc_new w _, Nat.le_refl _, by unfold maxLen; omega, rfl, rfl⟩⟩
theorem Row.cell0 {B n c : Nat} {W : World} {a : Option Addr} {l : List At} (h : Row B W (.slice a n c) l) {j : Nat} (hj : j < l.length) : ∃ g, a = some ⟨g, 0, none⟩ ∧ B ≤ g ∧ g < W.heap.size ∧ (W.cell? ⟨g, 0 + j * 3, none⟩ = some (.int .u8 (aget l j).k) ∧ W.cell? ⟨g, 0 + j * 3 + 1, none⟩ = some (.int .i64 (aget l j).r) ∧ W.cell? ⟨g, 0 + j * 3 + 2, none⟩ = some (.string (aget l j).x)) := by
  have hat := h.at.2
  rcases h.2 with ⟨_, h0⟩ | ⟨g, cap, cur, hv, hb, hg, _⟩
  · omega
  · injection hv with hv1 hv2 hv3
    subst hv1
    exact ⟨g, rfl, hb, lt_of_block hg, w2cells hat j hj⟩
set_option maxRecDepth 100000 in
set_option maxHeartbeats 12800000 in
theorem refExns_walk {n c : Nat} {a : Option Addr} {l : List At} {w : World} (h : Rd w n a l) (hn : n ≤ 5000) : Calls Tryz.prog 15 #[.slice a n c] w fun e w' => ∃ a' m c', e = .returned (.slice a' m c') ∧ m ≤ n ∧ RdS w' m a' (exnsOf (ofA l)) ∧ Below w.heap.size w w' := by
  obtain ⟨i0, hi, hz0, hz2, hz3⟩ := str_parts
  have HI := Lib.hid hi; have HZ0 := Lib.hid hz0; have HZ2 := Lib.hid hz2; have HZ3 := Lib.hid hz3
  have HC := Lib.hid fun O => refOf_walk (c := c) (h.below (al_new (W := w) O)) (by omega)
  clear hi hz0 hz2 hz3 h
  generalize ofA l = u at *
  go_enter Tryz.func15, Tryz.ntmps15
  go_wp2_with (fail)
  refine (HC.out _).mono ?_
  rintro e w1 ⟨a1, m, c1, rfl, hm, hro, hr1, hb1⟩
  have HRO := Lib.hid hro; have HUL := Lib.hid hr1.len
  have HT0 := Lib.hid (own_belowS (txs_new (w := w) (Nat.le_refl _)) hb1)
  have HB := Lib.hid (below_row (Below.refl _ _) hb1 (Nat.le_refl _))
  have HB1 := Lib.hid (show w.heap.size < w1.heap.size from by have := hb1.size; simp at this; omega)
  clear hro hr1 hb1
  go_wp2_with (fail)
  go_loopw [3, 5, 11] (fun own _ i wr => ∃ (j k c2 : Nat) (a2 : Option Addr), j ≤ m ∧ k ≤ j ∧ i = .int .i64 (j : Int) ∧ own = .slice a2 k c2 ∧ Hid (Txs w.heap.size wr (.slice a2 k c2) k (exnsOf (u.take j))) ∧ Hid ((∀ b, b < w1.heap.size → b ≠ w.heap.size → wr.heap[b]? = w1.heap[b]?) ∧ (∀ b, (Value.slice a2 k c2).ownBlock = some b → b = w.heap.size ∨ w1.heap.size ≤ b) ∧ w1.heap.size ≤ wr.heap.size) ∧ Hid (Below w.heap.size w wr)) (fun _ _ i _ => m - (intOf i).toNat)
  case atStart => exact ⟨0, 0, 0, some ⟨w.heap.size, 0, none⟩, Nat.zero_le _, Nat.zero_le _, rfl, rfl, HT0, Lib.hid ⟨fun b _ _ => rfl, fun b hb => .inl (Option.some.inj hb).symm, Nat.le_refl _⟩, HB⟩
  case round =>
    obtain ⟨j, k, c2, a2, hj, hkj, rfl, rfl, HT, HK, HS⟩ := hrel
    by_cases hlt : j < m
    · have hjl : j < u.length := by rw [HUL.out]; exact hlt
      obtain ⟨g, rfl, hgB, hgl, hcells⟩ := HRO.out.cell0 hjl
      obtain ⟨e0, e1, e2⟩ := cells_stay hcells (HK.out.1 g hgl (by simp at hgB; omega))
      have htk := at_take u j hjl
      generalize aget u j = x at *
      simp only [Nat.zero_add] at e0 e1 e2
      have HTK := Lib.hid htk
      clear htk hjl hgB hgl hcells
      by_cases hk : x.k = 3
      · have hkk : (x.k == 3) = true := by simpa using hk
        have HK3 := Lib.hid hk
        clear hk
        go_wp2_with (at_builtin; refine wpList_append_own_at _ rfl (.tmp 20) (.tmp 26) 34 rfl w.heap.size 9 i0 _ 1 16 Tryz.underlying34 HI.out HZ0.out HZ2.out HZ3.out rfl (by omega) (.slice a2 k c2) k (strsV (exnsOf (u.take j))) rfl (own_belowS HT.out (al_new _)) _ 1 1 (strsV [x.x]) rfl rfl (new_str rfl) (by simp [strsV, Value.oneCell']) (by unfold maxLen; omega) (by omega) (by have := HS.out.size; simp; omega) ?_; intro v' w3 hown hgr hnil hat; obtain ⟨a3, c3', rfl, -, -⟩ := own_slice hown; have HT3 := Lib.hid hown; have HS3 := Lib.hid ((below_then HS.out (al_new _) HS.out.size).grown hgr (by have := HS.out.size; simp; omega) fun g hg => (HT.out.lt g hg).1); have HG3 := Lib.hid hgr; have HA3 := Lib.hid hat; clear hown hgr hnil hat)
        go_roundw
        case rel =>
          refine ⟨j + 1, k + 1, c3', a3, by omega, by omega, by go_num, rfl, Lib.hid (by have := HT3.out; unfold Txs; rw [HTK.out, exns_step, if_pos HK3.out]; show World.ownsRow _ _ _ _ _ _ (strsV _); unfold strsV at this ⊢; rw [List.map_append]; exact this), Lib.hid ⟨fun b hb hne => ?_, fun b hb => ?_, ?_⟩, HS3⟩
          · have hbw := Nat.lt_of_lt_of_le hb HK.out.2.2
            refine (HG3.out.block b (by simp; omega) fun e => ?_).trans (((al_new _).block b hbw).trans (HK.out.1 b hb hne))
            rcases HK.out.2.1 b e.symm with q | q <;> omega
          · rcases HA3.out with q | q
            · rw [q] at hb; exact HK.out.2.1 b hb
            · rw [q] at hb
              have := Option.some.inj hb
              have h2 := HK.out.2.2
              simp at this
              omega
          · have h1 := HG3.out.size
            have h2 := HK.out.2.2
            simp at h1
            omega
        case measure => simp [intOf]; omega
      · have hkk : (x.k == 3) = false := by simpa using hk
        have HK3 := Lib.hid hk
        clear hk
        go_wp2_with (fail)
        go_roundw
        case rel => exact ⟨j + 1, k, c2, a2, by omega, by omega, by go_num, rfl, Lib.hid (by rw [HTK.out, exns_step, if_neg HK3.out, List.append_nil]; exact HT.out), HK, HS⟩
        case measure => simp [intOf]; omega
    · obtain rfl : j = m := by omega
      have ht := HT.out
      rw [List.take_of_length_le (by rw [HUL.out]; exact Nat.le_refl _)] at ht
      have HT' := Lib.hid ht
      clear ht
      go_wp2_with (fail)
      go_ret
      exact ⟨a2, k, c2, rfl, by omega, RdS.of_txs HT'.out, HS.out⟩
end Effect
end Go.Proofs.YtggabjmfdnfckaaGreatDoor
