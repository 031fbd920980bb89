/- Swap: the program's and the document's. -/
import Derived.Test.YtggabjmfdnfckaaDoorEfInts
import Derived.Laws.Rows
namespace Go.Proofs.YtggabjmfdnfckaaDoor
open Go.RowKit
set_option linter.unusedVariables false
set_option linter.unusedSimpArgs false
namespace Effect

def swapA (f t : List Int) (a : At) : At := if a.k = 3 then a else { a with r := turnI a.r f t }
theorem swap_self (f : List Int) (a : At) : swapA f f a = a := by
  unfold swapA
  split
  · rfl
  · rw [turn_self]
theorem swap_x (f t : List Int) (a : At) : (swapA f t a).x = a.x := by unfold swapA; split <;> rfl
theorem swap_k (f t : List Int) (a : At) : (swapA f t a).k = a.k := by unfold swapA; split <;> rfl
theorem swap_of (f t : List Int) (l : List At) : ofA ((ofA l).map (swapA f t)) = ofA ((l.filter atomB).map (swapA f t)) := of_congr fun b _ => by
  simp only [List.mem_map, mem_of, List.mem_filter]
theorem swap_own (f : List Int) (l : List At) : ofA ((ofA l).map (swapA f f)) = ofA l := by
  have e : (ofA l).map (swapA f f) = ofA l := by
    have : swapA f f = id := funext fun a => swap_self f a
    rw [this, List.map_id]
  rw [e, of_of]
/-- One element of a row of one's own. -/
theorem Row.cell {B n c : Nat} {W : World} {a : Option Addr} {l : List At} (h : Row B W (.slice a n c) l) {j : Nat} (hj : j < l.length) : ∃ g, a = some ⟨g, 0, none⟩ ∧ B ≤ g ∧ g < W.heap.size ∧ (W.cell? ⟨g, j * 3, none⟩ = some (.int .u8 (aget l j).k) ∧ W.cell? ⟨g, j * 3 + 1, none⟩ = some (.int .i64 (aget l j).r) ∧ W.cell? ⟨g, j * 3 + 2, none⟩ = some (.string (aget l j).x)) ∧ W.frozen? ⟨g, j * 3 + 1, none⟩ = false := by
  rcases h.2 with ⟨_, h0⟩ | ⟨g, cap, cur, hv, hb, hg, h1, h2, h3, h4⟩
  · omega
  · injection hv with hv1 hv2 hv3
    subst hv1
    have key : ∀ i, i < 3 → ∀ u, (enc (aget l j))[i]? = some u → W.cell? ⟨g, j * 3 + i, none⟩ = some u := fun i hi u hu => by
      have := h.cells (g := g) rfl (j * 3 + i) u (by rw [flat_get l j hj i hi]; exact hu)
      rw [Addr.add_lit] at this
      simpa using this
    refine ⟨g, rfl, hb, lt_of_block hg, ⟨key 0 (by omega) _ rfl, key 1 (by omega) _ rfl, key 2 (by omega) _ rfl⟩, ?_⟩
    simp [World.frozen?, hg]
theorem flat_set (l : List At) (j : Nat) (r : Int) (hj : j < l.length) : flat (l.set j { aget l j with r := r }) = (flat l).set (j * 3 + 1) (.int .i64 r) := by
  apply List.ext_getElem?
  intro t
  by_cases ht : t < l.length * 3
  · have e := flat_get (l.set j { aget l j with r := r }) (t / 3) (by rw [List.length_set]; omega) (t % 3) (Nat.mod_lt t (by omega))
    rw [show t / 3 * 3 + t % 3 = t by omega] at e
    rw [e]
    have e2 := flat_get l (t / 3) (by omega) (t % 3) (Nat.mod_lt t (by omega))
    rw [show t / 3 * 3 + t % 3 = t by omega] at e2
    rw [List.getElem?_set]
    by_cases hq : t / 3 = j
    · have ea : aget (l.set j { aget l j with r := r }) (t / 3) = { aget l j with r := r } := by
        unfold aget; rw [List.getD_eq_getElem?_getD, List.getElem?_set, if_pos hq.symm, if_pos hj]; rfl
      rw [ea]
      by_cases h1 : j * 3 + 1 = t
      · rw [if_pos h1, if_pos (by rw [flat_len]; omega), show t % 3 = 1 by omega]; rfl
      · rw [if_neg h1, e2, hq]
        rcases (by omega : t % 3 = 0 ∨ t % 3 = 2) with q | q <;> rw [q] <;> rfl
    · have ea : aget (l.set j { aget l j with r := r }) (t / 3) = aget l (t / 3) := by
        unfold aget; rw [List.getD_eq_getElem?_getD, List.getElem?_set, if_neg (fun e => hq e.symm), List.getD_eq_getElem?_getD]
      rw [ea, if_neg (by omega), e2]
  · rw [List.getElem?_eq_none (by rw [flat_len, List.length_set]; omega), List.getElem?_eq_none (by rw [List.length_set, flat_len]; omega)]
theorem Row.set {B n c g : Nat} {W : World} {l : List At} (h : Row B W (.slice (some ⟨g, 0, none⟩) n c) l) {j : Nat} (hj : j < l.length) (r : Int) : Row B (W.setCell ⟨g, j * 3 + 1, none⟩ (.int .i64 r)) (.slice (some ⟨g, 0, none⟩) n c) (l.set j { aget l j with r := r }) := by
  rcases h.2 with ⟨_, h0⟩ | ⟨g', cap, cur, hv, hb, hg, h1, h2, h3, h4⟩
  · omega
  · injection hv with hv1 hv2 hv3
    injection hv1 with hv1; injection hv1 with hv1
    subst hv1 hv3
    refine ⟨by rw [flat_len], .inr ⟨g, c, cur.setIfInBounds (j * 3 + 1) (.int .i64 r), by rw [List.length_set, hv2], hb, heap_setCell_same W g (j * 3 + 1) cur _ _ hg, by rw [List.length_set]; exact h1, h2, by simpa using h3, ?_⟩⟩
    rw [flat_set l j r hj, List.length_set, Array.toList_setIfInBounds, List.take_set, h4]
/-- What the loop has made. -/
def half (f t : List Int) (l : List At) (j : Nat) : List At := (l.take j).map (swapA f t) ++ l.drop j
theorem half_len (f t : List Int) (l : List At) (j : Nat) (hj : j ≤ l.length) : (half f t l j).length = l.length := by
  unfold half; rw [List.length_append, List.length_map, List.length_take, List.length_drop]; omega
theorem half_get (f t : List Int) (l : List At) (j : Nat) (hj : j < l.length) : aget (half f t l j) j = aget l j := by
  unfold half aget
  rw [List.getD_eq_getElem?_getD, List.getD_eq_getElem?_getD, List.getElem?_append_right (by rw [List.length_map, List.length_take]; omega), List.length_map, List.length_take, List.getElem?_drop, show j + (j - min j l.length) = j by omega]
theorem half_step (f t : List Int) (l : List At) (j : Nat) (hj : j < l.length) (y : At) (hy : y = swapA f t (aget l j)) : (half f t l j).set j y = half f t l (j + 1) := by
  subst hy
  unfold half
  rw [at_take l j hj, List.map_append, List.append_assoc, List.set_append_right _ _ (by rw [List.length_map, List.length_take]; omega), List.length_map, List.length_take, show j - min j l.length = 0 by omega]
  congr 1
  rw [List.drop_eq_getElem_cons hj]
  have : aget l j = l[j] := by have := aget_at hj; rw [List.getElem?_eq_getElem hj] at this; exact (Option.some.inj this).symm
  rw [this]; rfl
theorem half_same (f t : List Int) (l : List At) (j : Nat) (hj : j < l.length) (hy : swapA f t (aget l j) = aget l j) : half f t l j = half f t l (j + 1) := by
  rw [← half_step f t l j hj _ rfl, hy]
  refine List.ext_getElem? fun i => ?_
  rw [List.getElem?_set]
  by_cases e : j = i
  · subst e
    rw [if_pos rfl, if_pos (by rw [half_len f t l j (by omega)]; exact hj)]
    have := aget_at (l := half f t l j) (i := j) (by rw [half_len f t l j (by omega)]; exact hj)
    rw [this, half_get f t l j hj]
  · rw [if_neg e]
theorem half_end (f t : List Int) (l : List At) : half f t l l.length = l.map (swapA f t) := by unfold half; simp
set_option maxRecDepth 100000 in
set_option maxHeartbeats 12800000 in
theorem swap_walk {n c nf cf nt ct : Nat} {a af at_ : Option Addr} {l : List At} {f t : List Int} {w : World} (h : Rd w n a l) (hf : RdI w nf af f) (ht : RdI w nt at_ t) (hn : n ≤ 10000) (hnf : nf ≤ 10000) (hnt : nt ≤ 10000) : Calls Tryd.prog 22 #[.slice a n c, .slice af nf cf, .slice at_ nt ct] w fun e w' => ∃ a' m c', e = .returned (.slice a' m c') ∧ m ≤ n ∧ Rd w' m a' (ofA ((ofA l).map (swapA f t))) ∧ Below w.heap.size w w' := by
  have HC := Lib.hid (ofR (c := c) h (by omega)); have HOK0 := Lib.hid h.ok
  have HF := Lib.hid hf; have HT := Lib.hid ht
  clear h hf ht
  have hok := of_ok HOK0.out
  generalize ofA l = u at *
  have HOK := Lib.hid hok
  clear hok
  go_enter Tryd.func22, Tryd.ntmps22
  go_wp2_with (fail)
  refine HC.out.mono ?_
  rintro e w1 ⟨a1, m, c1, rfl, hm, hr1, -, hb1⟩
  have HUL := Lib.hid (show u.length = m from hr1.at.1.symm)
  have HR := Lib.hid hr1; have HB := Lib.hid hb1
  clear hr1 hb1
  go_wp2_with (fail)
  go_loopw [8, 9, 10, 15] (fun _ _ _ i wr => ∃ j : Nat, j ≤ m ∧ i = .int .i64 (j : Int) ∧ Hid (Row w.heap.size wr (.slice a1 m c1) (half f t u j)) ∧ Hid (Below w.heap.size w wr)) (fun _ _ _ i _ => m - (intOf i).toNat)
  case atStart => exact ⟨0, Nat.zero_le _, rfl, Lib.hid (by unfold half; simpa using HR.out), HB⟩
  case round =>
    obtain ⟨j, hj, rfl, HRW, HS⟩ := hrel
    by_cases hlt : j < m
    · have hju : j < u.length := by rw [HUL.out]; exact hlt
      have hjh : j < (half f t u j).length := by rw [half_len f t u j (by omega)]; exact hju
      obtain ⟨g, rfl, hBg, hgl, ⟨e0, e1, e2⟩, hfz⟩ := HRW.out.cell hjh
      rw [half_get f t u j hju] at e0 e1 e2
      have hstep := half_step f t u j hju
      have hsame := half_same f t u j hju
      have hset := fun W (hW : Row w.heap.size W (.slice (some ⟨g, 0, none⟩) m c1) (half f t u j)) r => Row.set hW hjh r
      rw [half_get f t u j hju] at hset
      generalize aget u j = x at *
      have HSTEP := Lib.hid hstep; have HSAME := Lib.hid hsame; have HSET := Lib.hid hset; have HJH := Lib.hid hjh; have HGL := Lib.hid (And.intro hBg hgl)
      have HIX := Lib.hid fun O => index_walk (c := cf) ((HF.out.below HS.out).below (al_new (W := wr) O)) (by omega) x.r
      have HIR := Lib.hid fun W => inRegion_walk x W
      obtain ⟨iv, hiv⟩ : ∃ iv, Lib.idxOf f x.r = iv := ⟨_, rfl⟩
      have hir := idx_range f x.r
      rw [hiv] at HIX hir
      have HIV := Lib.hid hiv
      have hivr : -1 ≤ iv ∧ iv ≤ 10000 := by
        rcases hir with h1 | ⟨k, h1, h2, _⟩
        · omega
        · have := HF.out.len; omega
      clear hstep hsame hset hju hjh hBg hgl hfz hiv hir
      go_wp2_with (fail)
      refine (HIX.out _).mono ?_
      rintro e w2 ⟨rfl, rfl⟩
      obtain ⟨⟨x0, x1, x2⟩, -, -⟩ := c3 (at_new (w := wr) (o := .cells #[.int .u8 x.k, .int .i64 x.r, .string x.x] 27) rfl)
      go_wp2_with (fail)
      refine (HIR.out _).mono ?_
      rintro e w3 ⟨rfl, hb3⟩
      have hB3 : Below wr.heap.size wr w3 := (al_new _).trans (hb3.mono (by simp))
      have HR3 := Lib.hid (HRW.out.below hB3); have HS3 := Lib.hid (below_then HS.out hB3 HS.out.size)
      clear hb3 hB3 e0 e1 e2 x0 x1 x2
      obtain ⟨g', hg', -, -, ⟨e0, e1, e2⟩, hfz⟩ := HR3.out.cell HJH.out
      injection hg' with hg'; injection hg' with hg'
      subst hg'
      clear e0 e2
      by_cases hk : x.k = 3
      · have HSM := Lib.hid (show swapA f t x = x by unfold swapA; rw [if_pos hk])
        have hk2 : decide (x.k ≠ 3) = false := decide_eq_false fun e => e hk
        rw [hk2]
        clear hk hk2 e1 hfz
        go_wp2_with (fail)
        go_roundw
        case rel => exact ⟨j + 1, by omega, by go_num, Lib.hid (by rw [← HSAME.out HSM.out]; exact HR3.out), HS3⟩
        case measure => simp [intOf]; omega
      · have hk2 : decide (x.k ≠ 3) = true := decide_eq_true hk
        rw [hk2]
        by_cases hin : 0 ≤ iv ∧ iv < nt
        · obtain ⟨hin1, hin2⟩ := hin
          have hkt : iv.toNat < t.length := by rw [HT.out.len]; omega
          obtain ⟨bt, ot, rfl, q0⟩ := (HT.out.below HS3.out).get iv.toNat hkt
          have hsw : swapA f t x = { x with r := nget t iv.toNat } := by
            unfold swapA turnI
            rw [if_neg hk, HIV.out, if_pos ⟨hin1, by rw [HT.out.len]; exact hin2⟩]
          have HSW := Lib.hid hsw
          obtain ⟨ki, hki⟩ : ∃ ki : Nat, iv = ki := ⟨iv.toNat, by omega⟩
          subst hki
          rw [Int.toNat_natCast] at q0 HSW
          generalize nget t ki = r at *
          clear hk hk2 hsw hkt hin1 hivr
          go_wp2_with (fail)
          go_roundw
          case rel => exact ⟨j + 1, by omega, by go_num, Lib.hid (by rw [← HSTEP.out _ HSW.out.symm]; exact HSET.out w3 HR3.out r), Lib.hid (HS3.out.setCell HGL.out.1 _)⟩
          case measure => simp [intOf]; omega
        · have HSM := Lib.hid (show swapA f t x = x by
            unfold swapA turnI
            rw [if_neg hk, HIV.out, if_neg (by rw [HT.out.len]; exact hin)])
          clear hk hk2 e1 hfz
          by_cases h0 : 0 ≤ iv
          · have h1 : ¬ iv < nt := fun e => hin ⟨h0, e⟩
            clear hin
            go_wp2_with (fail)
            go_roundw
            case rel => exact ⟨j + 1, by omega, by go_num, Lib.hid (by rw [← HSAME.out HSM.out]; exact HR3.out), HS3⟩
            case measure => simp [intOf]; omega
          · clear hin
            go_wp2_with (fail)
            go_roundw
            case rel => exact ⟨j + 1, by omega, by go_num, Lib.hid (by rw [← HSAME.out HSM.out]; exact HR3.out), HS3⟩
            case measure => simp [intOf]; omega
    · obtain rfl : j = m := by omega
      have hr := HRW.out
      rw [← HUL.out, half_end, HUL.out] at hr
      have hrd := Rd.of_row hr fun y hy => by
        obtain ⟨z, hz, rfl⟩ := List.mem_map.1 hy
        rw [swap_x]; exact HOK.out z hz
      have HO := Lib.hid (ofR (c := c1) hrd (by omega))
      clear hr hrd
      go_wp2_with (fail)
      refine HO.out.mono ?_
      rintro e w4 ⟨a4, m4, c4, rfl, hm4, -, hr4, hb4⟩
      have HR4 := Lib.hid hr4; have HB4 := Lib.hid (below_then HS.out hb4 HS.out.size)
      clear hr4 hb4
      go_wp2_with (fail)
      go_ret
      exact ⟨a4, m4, c4, rfl, by omega, HR4.out, HB4.out⟩
end Effect
end Go.Proofs.YtggabjmfdnfckaaDoor
