/-Swap: the program's and the document's. Without some regions; without some exceptions. Exceptions of rows; is a number in a row; the walk of EffectParts. The regions of rows of atoms, as the program tells them. The document's Without and Handled. Rows of atoms, the document's way: which are too great, their union; are rows of numbers, of texts, equal. Are rows of numbers, of texts, equal; a rising row with one more; regions and exceptions, the document's way. -/
import Derived.Test.YtabegjpledammaaGreatDoorGC05
import Derived.Laws.Rows
import Derived.Sort.OwnSortedInts
import Derived.Shelf.RegionOpenPlain
namespace Go.Proofs.YtabegjpledammaaGreatDoor
open Go.RowKit
set_option linter.unusedVariables false
set_option linter.unusedSimpArgs false
namespace Effect

def swapA (f t : List Int) (a : At) : At := if a.k = 3 then a else { a with r := turnI a.r f t }
theorem swap_x (f t : List Int) (a : At) : (swapA f t a).x = a.x := by unfold swapA; split <;> rfl
/-- One element of a row of one's own. -/
theorem Row.cell {B n c : Nat} {W : World} {a : Option Addr} {l : List At} (h : Row B W (.slice a n c) l) {j : Nat} (hj : j < l.length) : ∃ g, a = some ⟨g, 0, none⟩ ∧ B ≤ g ∧ g < W.heap.size ∧ (W.cell? ⟨g, j * 3, none⟩ = some (.int .u8 (aget l j).k) ∧ W.cell? ⟨g, j * 3 + 1, none⟩ = some (.int .i64 (aget l j).r) ∧ W.cell? ⟨g, j * 3 + 2, none⟩ = some (.string (aget l j).x)) ∧ W.frozen? ⟨g, j * 3 + 1, none⟩ = false := by
  rcases h.2 with ⟨_, h0⟩ | ⟨g, cap, cur, hv, hb, hg, h1, h2, h3, h4⟩
  · omega
  · injection hv with hv1 hv2 hv3
    subst hv1
    have key : ∀ i, i < 3 → ∀ u, (enc (aget l j))[i]? = some u → W.cell? ⟨g, j * 3 + i, none⟩ = some u := fun i hi u hu => by
      have := h.cells (g := g) rfl (j * 3 + i) u (by rw [flat_get l j hj i hi]; exact hu)
      rw [Addr.add_lit] at this
      simpa using this
    refine ⟨g, rfl, hb, lt_of_block hg, ⟨key 0 (by omega) _ rfl, key 1 (by omega) _ rfl, key 2 (by omega) _ rfl⟩, ?_⟩
    simp [World.frozen?, hg]
theorem flat_set (l : List At) (j : Nat) (r : Int) (hj : j < l.length) : flat (l.set j { aget l j with r := r }) = (flat l).set (j * 3 + 1) (.int .i64 r) := by
  apply List.ext_getElem?
  intro t
  by_cases ht : t < l.length * 3
  · have e := flat_get (l.set j { aget l j with r := r }) (t / 3) (by rw [List.length_set]; omega) (t % 3) (Nat.mod_lt t (by omega))
    rw [show t / 3 * 3 + t % 3 = t by omega] at e
    rw [e]
    have e2 := flat_get l (t / 3) (by omega) (t % 3) (Nat.mod_lt t (by omega))
    rw [show t / 3 * 3 + t % 3 = t by omega] at e2
    rw [List.getElem?_set]
    by_cases hq : t / 3 = j
    · have ea : aget (l.set j { aget l j with r := r }) (t / 3) = { aget l j with r := r } := by
        unfold aget; rw [List.getD_eq_getElem?_getD, List.getElem?_set, if_pos hq.symm, if_pos hj]; rfl
      rw [ea]
      by_cases h1 : j * 3 + 1 = t
      · rw [if_pos h1, if_pos (by rw [flat_len]; omega), show t % 3 = 1 by omega]; rfl
      · rw [if_neg h1, e2, hq]
        rcases (by omega : t % 3 = 0 ∨ t % 3 = 2) with q | q <;> rw [q] <;> rfl
    · have ea : aget (l.set j { aget l j with r := r }) (t / 3) = aget l (t / 3) := by
        unfold aget; rw [List.getD_eq_getElem?_getD, List.getElem?_set, if_neg (fun e => hq e.symm), List.getD_eq_getElem?_getD]
      rw [ea, if_neg (by omega), e2]
  · rw [List.getElem?_eq_none (by rw [flat_len, List.length_set]; omega), List.getElem?_eq_none (by rw [List.length_set, flat_len]; omega)]
theorem Row.set {B n c g : Nat} {W : World} {l : List At} (h : Row B W (.slice (some ⟨g, 0, none⟩) n c) l) {j : Nat} (hj : j < l.length) (r : Int) : Row B (W.setCell ⟨g, j * 3 + 1, none⟩ (.int .i64 r)) (.slice (some ⟨g, 0, none⟩) n c) (l.set j { aget l j with r := r }) := by
  rcases h.2 with ⟨_, h0⟩ | ⟨g', cap, cur, hv, hb, hg, h1, h2, h3, h4⟩
  · omega
  · injection hv with hv1 hv2 hv3
    injection hv1 with hv1; injection hv1 with hv1
    subst hv1 hv3
    refine ⟨by rw [flat_len], .inr ⟨g, c, cur.setIfInBounds (j * 3 + 1) (.int .i64 r), by rw [List.length_set, hv2], hb, heap_setCell_same W g (j * 3 + 1) cur _ _ hg, by rw [List.length_set]; exact h1, h2, by simpa using h3, ?_⟩⟩
    rw [flat_set l j r hj, List.length_set, Array.toList_setIfInBounds, List.take_set, h4]
/-- What the loop has made. -/
def half (f t : List Int) (l : List At) (j : Nat) : List At := (l.take j).map (swapA f t) ++ l.drop j
theorem half_len (f t : List Int) (l : List At) (j : Nat) (hj : j ≤ l.length) : (half f t l j).length = l.length := by
  unfold half; rw [List.length_append, List.length_map, List.length_take, List.length_drop]; omega
theorem half_get (f t : List Int) (l : List At) (j : Nat) (hj : j < l.length) : aget (half f t l j) j = aget l j := by
  unfold half aget
  rw [List.getD_eq_getElem?_getD, List.getD_eq_getElem?_getD, List.getElem?_append_right (by rw [List.length_map, List.length_take]; omega), List.length_map, List.length_take, List.getElem?_drop, show j + (j - min j l.length) = j by omega]
theorem half_step (f t : List Int) (l : List At) (j : Nat) (hj : j < l.length) (y : At) (hy : y = swapA f t (aget l j)) : (half f t l j).set j y = half f t l (j + 1) := by
  subst hy
  unfold half
  rw [at_take l j hj, List.map_append, List.append_assoc, List.set_append_right _ _ (by rw [List.length_map, List.length_take]; omega), List.length_map, List.length_take, show j - min j l.length = 0 by omega]
  congr 1
  rw [List.drop_eq_getElem_cons hj]
  have : aget l j = l[j] := by have := aget_at hj; rw [List.getElem?_eq_getElem hj] at this; exact (Option.some.inj this).symm
  rw [this]; rfl
theorem half_same (f t : List Int) (l : List At) (j : Nat) (hj : j < l.length) (hy : swapA f t (aget l j) = aget l j) : half f t l j = half f t l (j + 1) := by
  rw [← half_step f t l j hj _ rfl, hy]
  refine List.ext_getElem? fun i => ?_
  rw [List.getElem?_set]
  by_cases e : j = i
  · subst e
    rw [if_pos rfl, if_pos (by rw [half_len f t l j (by omega)]; exact hj)]
    have := aget_at (l := half f t l j) (i := j) (by rw [half_len f t l j (by omega)]; exact hj)
    rw [this, half_get f t l j hj]
  · rw [if_neg e]
theorem half_end (f t : List Int) (l : List At) : half f t l l.length = l.map (swapA f t) := by unfold half; simp
set_option maxRecDepth 100000 in
set_option maxHeartbeats 12800000 in
theorem swapRow_walk {n c nf cf nt ct : Nat} {a af at_ : Option Addr} {l : List At} {f t : List Int} {w : World} (h : Rd w n a l) (hf : RdI w nf af f) (ht : RdI w nt at_ t) (hn : n ≤ 10000) (hnf : nf ≤ 10000) (hnt : nt ≤ 10000) : Calls Tryz.prog 48 #[.slice a n c, .slice af nf cf, .slice at_ nt ct] w fun e w' => ∃ a' m c', e = .returned (.slice a' m c') ∧ m ≤ n ∧ Row w.heap.size w' (.slice a' m c') (ofA ((ofA l).map (swapA f t))) ∧ Rd w' m a' (ofA ((ofA l).map (swapA f t))) ∧ Below w.heap.size w w' := by
  have HC := Lib.hid (ofR (c := c) h (by omega)); have HOK0 := Lib.hid h.ok
  have HF := Lib.hid hf; have HT := Lib.hid ht
  clear h hf ht
  have hok := of_ok HOK0.out
  generalize ofA l = u at *
  have HOK := Lib.hid hok
  clear hok
  go_enter Tryz.func48, Tryz.ntmps48
  go_wp2_with (fail)
  refine HC.out.mono ?_
  rintro e w1 ⟨a1, m, c1, rfl, hm, hr1, -, hb1⟩
  have HUL := Lib.hid (show u.length = m from hr1.at.1.symm)
  have HR := Lib.hid hr1; have HB := Lib.hid hb1
  clear hr1 hb1
  go_wp2_with (fail)
  go_loopw [8, 9, 10, 15] (fun _ _ _ i wr => ∃ j : Nat, j ≤ m ∧ i = .int .i64 (j : Int) ∧ Hid (Row w.heap.size wr (.slice a1 m c1) (half f t u j)) ∧ Hid (Below w.heap.size w wr)) (fun _ _ _ i _ => m - (intOf i).toNat)
  case atStart => exact ⟨0, Nat.zero_le _, rfl, Lib.hid (by unfold half; simpa using HR.out), HB⟩
  case round =>
    obtain ⟨j, hj, rfl, HRW, HS⟩ := hrel
    by_cases hlt : j < m
    · have hju : j < u.length := by rw [HUL.out]; exact hlt
      have hjh : j < (half f t u j).length := by rw [half_len f t u j (by omega)]; exact hju
      obtain ⟨g, rfl, hBg, hgl, ⟨e0, e1, e2⟩, hfz⟩ := HRW.out.cell hjh
      rw [half_get f t u j hju] at e0 e1 e2
      have hstep := half_step f t u j hju
      have hsame := half_same f t u j hju
      have hset := fun W (hW : Row w.heap.size W (.slice (some ⟨g, 0, none⟩) m c1) (half f t u j)) r => Row.set hW hjh r
      rw [half_get f t u j hju] at hset
      generalize aget u j = x at *
      have HSTEP := Lib.hid hstep; have HSAME := Lib.hid hsame; have HSET := Lib.hid hset; have HJH := Lib.hid hjh; have HGL := Lib.hid (And.intro hBg hgl)
      have HIX := Lib.hid fun O => index_walk (c := cf) ((HF.out.below HS.out).below (al_new (W := wr) O)) (by omega) x.r
      have HIR := Lib.hid fun W => inRegion_walk x W
      obtain ⟨iv, hiv⟩ : ∃ iv, Lib.idxOf f x.r = iv := ⟨_, rfl⟩
      have hir := idx_range f x.r
      rw [hiv] at HIX hir
      have HIV := Lib.hid hiv
      have hivr : -1 ≤ iv ∧ iv ≤ 10000 := by
        rcases hir with h1 | ⟨k, h1, h2, _⟩
        · omega
        · have := HF.out.len; omega
      clear hstep hsame hset hju hjh hBg hgl hfz hiv hir
      go_wp2_with (fail)
      refine (HIX.out _).mono ?_
      rintro e w2 ⟨rfl, rfl⟩
      obtain ⟨⟨x0, x1, x2⟩, -, -⟩ := c3 (at_new (w := wr) (o := .cells #[.int .u8 x.k, .int .i64 x.r, .string x.x] 69) rfl)
      go_wp2_with (fail)
      refine (HIR.out _).mono ?_
      rintro e w3 ⟨rfl, hb3⟩
      have hB3 : Below wr.heap.size wr w3 := (al_new _).trans (hb3.mono (by simp))
      have HR3 := Lib.hid (HRW.out.below hB3); have HS3 := Lib.hid (below_then HS.out hB3 HS.out.size)
      clear hb3 hB3 e0 e1 e2 x0 x1 x2
      obtain ⟨g', hg', -, -, ⟨e0, e1, e2⟩, hfz⟩ := HR3.out.cell HJH.out
      injection hg' with hg'; injection hg' with hg'
      subst hg'
      clear e0 e2
      by_cases hk : x.k = 3
      · have HSM := Lib.hid (show swapA f t x = x by unfold swapA; rw [if_pos hk])
        have hk2 : decide (x.k ≠ 3) = false := decide_eq_false fun e => e hk
        rw [hk2]
        clear hk hk2 e1 hfz
        go_wp2_with (fail)
        go_roundw
        case rel => exact ⟨j + 1, by omega, by go_num, Lib.hid (by rw [← HSAME.out HSM.out]; exact HR3.out), HS3⟩
        case measure => simp [intOf]; omega
      · have hk2 : decide (x.k ≠ 3) = true := decide_eq_true hk
        rw [hk2]
        by_cases hin : 0 ≤ iv ∧ iv < nt
        · obtain ⟨hin1, hin2⟩ := hin
          have hkt : iv.toNat < t.length := by rw [HT.out.len]; omega
          obtain ⟨bt, ot, rfl, q0⟩ := (HT.out.below HS3.out).get iv.toNat hkt
          have hsw : swapA f t x = { x with r := nget t iv.toNat } := by
            unfold swapA turnI
            rw [if_neg hk, HIV.out, if_pos ⟨hin1, by rw [HT.out.len]; exact hin2⟩]
          have HSW := Lib.hid hsw
          obtain ⟨ki, hki⟩ : ∃ ki : Nat, iv = ki := ⟨iv.toNat, by omega⟩
          subst hki
          rw [Int.toNat_natCast] at q0 HSW
          generalize nget t ki = r at *
          clear hk hk2 hsw hkt hin1 hivr
          go_wp2_with (fail)
          go_roundw
          case rel => exact ⟨j + 1, by omega, by go_num, Lib.hid (by rw [← HSTEP.out _ HSW.out.symm]; exact HSET.out w3 HR3.out r), Lib.hid (HS3.out.setCell HGL.out.1 _)⟩
          case measure => simp [intOf]; omega
        · have HSM := Lib.hid (show swapA f t x = x by
            unfold swapA turnI
            rw [if_neg hk, HIV.out, if_neg (by rw [HT.out.len]; exact hin)])
          clear hk hk2 e1 hfz
          by_cases h0 : 0 ≤ iv
          · have h1 : ¬ iv < nt := fun e => hin ⟨h0, e⟩
            clear hin
            go_wp2_with (fail)
            go_roundw
            case rel => exact ⟨j + 1, by omega, by go_num, Lib.hid (by rw [← HSAME.out HSM.out]; exact HR3.out), HS3⟩
            case measure => simp [intOf]; omega
          · clear hin
            go_wp2_with (fail)
            go_roundw
            case rel => exact ⟨j + 1, by omega, by go_num, Lib.hid (by rw [← HSAME.out HSM.out]; exact HR3.out), HS3⟩
            case measure => simp [intOf]; omega
    · obtain rfl : j = m := by omega
      have hr := HRW.out
      rw [← HUL.out, half_end, HUL.out] at hr
      have hrd := Rd.of_row hr fun y hy => by
        obtain ⟨z, hz, rfl⟩ := List.mem_map.1 hy
        rw [swap_x]; exact HOK.out z hz
      have HO := Lib.hid (ofR (c := c1) hrd (by omega))
      clear hr hrd
      go_wp2_with (fail)
      refine HO.out.mono ?_
      rintro e w4 ⟨a4, m4, c4, rfl, hm4, hrow4, hr4, hb4⟩
      have HRO4 := Lib.hid (own_lower hrow4 HS.out.size)
      have HR4 := Lib.hid hr4; have HB4 := Lib.hid (below_then HS.out hb4 HS.out.size)
      clear hrow4 hr4 hb4
      go_wp2_with (fail)
      go_ret
      exact ⟨a4, m4, c4, rfl, by omega, HRO4.out, HR4.out, HB4.out⟩
theorem swap_walk {n c nf cf nt ct : Nat} {a af at_ : Option Addr} {l : List At} {f t : List Int} {w : World} (h : Rd w n a l) (hf : RdI w nf af f) (ht : RdI w nt at_ t) (hn : n ≤ 10000) (hnf : nf ≤ 10000) (hnt : nt ≤ 10000) : Calls Tryz.prog 48 #[.slice a n c, .slice af nf cf, .slice at_ nt ct] w fun e w' => ∃ a' m c', e = .returned (.slice a' m c') ∧ m ≤ n ∧ Rd w' m a' (ofA ((ofA l).map (swapA f t))) ∧ Below w.heap.size w w' :=
  (swapRow_walk h hf ht hn hnf hnt).mono fun e w' ⟨a', m, c', h1, h2, _, h3, h4⟩ => ⟨a', m, c', h1, h2, h3, h4⟩
end Effect
end Go.Proofs.YtabegjpledammaaGreatDoor
namespace Go.Proofs.YtabegjpledammaaGreatDoor
open Go.RowKit Go.Sort Go.Shelf Go.Lib
set_option linter.unusedVariables false
set_option linter.unusedSimpArgs false
namespace Effect

/-- A row of texts that is read. -/
structure RdS (w : World) (n : Nat) (p : Option Addr) (l : List ByteArray) : Prop where
  len : l.length = n
  at_ : l = [] ∨ ∃ b o, p = some ⟨b, o, none⟩ ∧ ∀ i, i < l.length → w.cell? ⟨b, o + i, none⟩ = some (.string (l.getD i ByteArray.empty))
theorem RdS.below {w W : World} {n : Nat} {p : Option Addr} {l : List ByteArray} (h : RdS w n p l) (hb : Below w.heap.size w W) : RdS W n p l := by
  refine ⟨h.len, h.at_.imp id ?_⟩
  rintro ⟨b, o, hp, hc⟩
  exact ⟨b, o, hp, fun i hi => (hb.cell (p := ⟨b, _, none⟩) (World.block_lt_of_cell? w _ (hc i hi))).trans (hc i hi)⟩
end Effect
end Go.Proofs.YtabegjpledammaaGreatDoor
namespace Go.Proofs.YtabegjpledammaaGreatDoor
open Go.RowKit
set_option linter.unusedVariables false
set_option linter.unusedSimpArgs false
namespace Effect

theorem rows_one {W : World} {N : Nat} {a : Option Addr} {la ca : Nat} {l : List At} {ty : TypeId} (h : W.heap[N]? = some (.cells #[.slice a la ca] ty (0, 0))) (h1 : la = l.length) (ha : AtsAt W a l) : RowsAt W (some ⟨N, 0, none⟩) [l] := by
  subst h1
  refine .inr ⟨N, 0, rfl, fun i hi => ?_⟩
  match i, hi with
  | 0, _ => exact ⟨a, ca, by simp [World.cell?, h, rget], ha⟩
set_option maxHeartbeats 6400000 in
theorem refInts_walk {n c : Nat} {a : Option Addr} {l : List Int} {w : World} (h : RdI w n a l) (hn : n ≤ 100000) (x : Int) : Calls Tryz.prog 45 #[.slice a n c, .int .i64 x] w fun e w' => e = .returned (.bool (l.contains x)) ∧ w' = w := by
  have H := Lib.hid h
  clear h
  go_enter Tryz.func45, Tryz.ntmps45
  go_wp2_with (fail)
  go_loopw [5, 8] (fun _ i wr => ∃ j : Nat, j ≤ n ∧ i = .int .i64 (j : Int) ∧ Hid (wr = w) ∧ Hid (∀ i, i < j → nget l i ≠ x)) (fun _ i _ => n - (intOf i).toNat)
  case atStart => exact ⟨0, Nat.zero_le _, rfl, Lib.hid rfl, Lib.hid (fun i hi => absurd hi (Nat.not_lt_zero _))⟩
  case round =>
    obtain ⟨j, hj, rfl, HW, HA⟩ := hrel
    by_cases hlt : j < n
    · have hjl : j < l.length := by rw [H.out.len]; exact hlt
      obtain ⟨b1, o1, rfl, e0⟩ := H.out.get j hjl
      rw [← HW.out] at e0
      by_cases hx : nget l j = x
      · have HC := Lib.hid (show l.contains x = true by simp; rw [← hx]; exact nget_mem hjl)
        rw [hx] at e0
        have hxx : (x == x) = true := by simp
        clear hx hjl
        go_wp2_with (fail)
        go_ret
        exact ⟨ret_bool HC.out.symm, HW.out⟩
      · have hxx : (nget l j == x) = false := by simpa using hx
        have HX := Lib.hid hx
        clear hx hjl
        go_wp2_with (fail)
        go_roundw
        case rel => exact ⟨j + 1, by omega, by go_num, HW, Lib.hid fun i hi => by
            by_cases e : i = j
            · rw [e]; exact HX.out
            · exact HA.out i (by omega)⟩
        case measure => simp [intOf]; omega
    · obtain rfl : j = n := by omega
      have HC := Lib.hid (show l.contains x = false by
        rw [Bool.eq_false_iff]
        intro hc
        have hmem : x ∈ l := by simpa using hc
        obtain ⟨i, hi, e⟩ := List.mem_iff_getElem.1 hmem
        refine HA.out i (by rw [← H.out.len]; exact hi) ?_
        have := nget_at hi
        rw [List.getElem?_eq_getElem hi, e] at this
        exact (Option.some.inj this).symm)
      go_wp2_with (fail)
      go_ret
      exact ⟨ret_bool HC.out.symm, HW.out⟩
end Effect
end Go.Proofs.YtabegjpledammaaGreatDoor
namespace Go.Proofs.YtabegjpledammaaGreatDoor
open Go.RowKit
set_option linter.unusedVariables false
set_option linter.unusedSimpArgs false
namespace Effect

def intsV (l : List Int) : List Value := l.map (Value.int .i64)
theorem mem_upToI {d : Array Int} : ∀ (m : Nat), (∀ x ∈ Lib.compactUpTo d m, ∃ j, j < m ∧ d[j]! = x) ∧ ∀ j, j < m → d[j]! ∈ Lib.compactUpTo d m
  | 0 => ⟨fun x hx => by simp [Lib.compactUpTo] at hx, fun j hj => by omega⟩
  | m + 1 => by
    obtain ⟨h1, h2⟩ := mem_upToI (d := d) m
    rw [Lib.compactUpTo_succ]
    refine ⟨fun x hx => ?_, fun j hj => ?_⟩
    · rcases List.mem_append.1 hx with hx | hx
      · obtain ⟨j, a, b⟩ := h1 x hx; exact ⟨j, by omega, b⟩
      · split at hx
        · rw [List.mem_singleton] at hx; exact ⟨m, by omega, hx.symm⟩
        · cases hx
    · rcases Nat.lt_or_ge j m with hj' | hj'
      · exact List.mem_append_left _ (h2 j hj')
      · obtain rfl : j = m := by omega
        by_cases hk : Lib.keeps d j = true
        · rw [if_pos hk]; exact List.mem_append_right _ (List.mem_singleton.2 rfl)
        · have hk' : ¬ (j = 0 ∨ d[j]! ≠ d[j - 1]!) := by simpa [Lib.keeps] using hk
          have h0 : j ≠ 0 := fun e => hk' (.inl e)
          have he : d[j]! = d[j - 1]! := Classical.not_not.1 fun e => hk' (.inr e)
          rw [he]
          exact List.mem_append_left _ (h2 (j - 1) (by omega))
def tidyI (l : List Int) : List Int := Lib.compact (l.mergeSort fun x y => decide (x ≤ y))
theorem mem_tidy (l : List Int) (x : Int) : x ∈ tidyI l ↔ x ∈ l := by
  unfold tidyI
  rw [← List.mem_mergeSort (le := fun x y : Int => decide (x ≤ y)) (l := l)]
  generalize l.mergeSort (fun x y => decide (x ≤ y)) = k
  obtain ⟨h1, h2⟩ := mem_upToI (d := k.toArray) k.length
  constructor
  · intro hx
    obtain ⟨j, hj, e⟩ := h1 x hx
    rw [← e]
    simp [hj]
  · intro hx
    obtain ⟨j, hj, e⟩ := List.mem_iff_getElem.1 hx
    have := h2 j hj
    have e2 : k.toArray[j]! = x := by simp [hj, e]
    rw [e2] at this
    exact this
/-- A row of numbers of one's own. -/
def Ixs (B : Nat) (W : World) (v : Value) (n : Nat) (l : List Int) : Prop := W.ownsRow B 3 1 v n (intsV l)
theorem sortI_walk (B n c : Nat) (a : Option Addr) (l : List Int) (w : World) (h : Ixs B w (.slice a n c) n l) (hn : n < 4611686018427387904) :
    Calls Tryz.prog 43 #[.slice a n c] w fun en w' => en = .returned (.tuple #[]) ∧ Ixs B w' (.slice a n c) n (l.mergeSort fun x y => decide (x ≤ y)) ∧ w.grownBy w' (Value.slice a n c).ownBlock := by
  have hll : l.length = n := by have := h.1; unfold intsV at this; rw [List.length_map] at this; omega
  subst hll
  rcases h.2 with ⟨hv, h0⟩ | ⟨g, cap, cur, hv, hb, hg, h1, h2, h3, h4⟩
  · have hl : l = [] := List.eq_nil_of_length_eq_zero h0
    subst hl
    refine (Tryz.slices_Sort_int_none a c w).mono ?_
    rintro en w' ⟨rfl, rfl⟩
    exact ⟨rfl, by simpa using h, ⟨rfl, rfl, rfl, Nat.le_refl _, fun _ _ _ => rfl⟩⟩
  · injection hv with hv1 hv2 hv3
    subst hv1 hv3
    have hH := Go.holds_of_blockI hg (by rw [Nat.mul_one] at h4; exact h4)
    refine (Tryz.slices_Sort_int g 0 c l w hH (lt_of_block hg) hn).mono ?_
    rintro en w' ⟨rfl, q, os, rfl⟩
    exact ⟨rfl, Go.ownsRow_sortedI (List.length_mergeSort _) hb hg h1 h2 h3, Go.grownBy_sortedI _⟩
theorem own_popI {w : World} {B n c m : Nat} {a : Option Addr} {xs : List Value} (h : w.ownsRow B 3 1 (.slice a n c) n xs) (hm : m ≤ n) (hn : 0 < n) : w.ownsRow B 3 1 (.slice a m c) m (xs.take m) := by
  rcases h.2 with ⟨_, h0⟩ | ⟨g, cap, cur, hv, hb, hg, h1, h2, h3, h4⟩
  · omega
  · injection hv with hv1 hv2 hv3
    subst hv1 hv3
    have hl := h.1
    refine ⟨by rw [List.length_take]; omega, .inr ⟨g, c, cur, rfl, hb, hg, by omega, h2, h3, by rw [← h4, List.take_take]; congr 1; omega⟩⟩
theorem compactI_walk (B n c : Nat) (a : Option Addr) (l : List Int) (w : World) (h : Ixs B w (.slice a n c) n l) (hn : n < 4611686018427387904) :
    Calls Tryz.prog 44 #[.slice a n c] w fun en w' => en = .returned (.slice a (Lib.compact l).length c) ∧ Ixs B w' (.slice a (Lib.compact l).length c) (Lib.compact l).length (Lib.compact l) ∧ w.grownBy w' (Value.slice a n c).ownBlock := by
  have hll : l.length = n := by have := h.1; unfold intsV at this; rw [List.length_map] at this; omega
  subst hll
  rcases h.2 with ⟨hv, h0⟩ | ⟨g, cap, cur, hv, hb, hg, h1, h2, h3, h4⟩
  · have hl : l = [] := List.eq_nil_of_length_eq_zero h0
    subst hl
    refine (Tryz.slices_Compact_int_empty a c w).mono ?_
    rintro en w' ⟨rfl, rfl⟩
    exact ⟨rfl, h, ⟨rfl, rfl, rfl, Nat.le_refl _, fun _ _ _ => rfl⟩⟩
  · injection hv with hv1 hv2 hv3
    subst hv1 hv3
    have hH := Go.holds_of_blockI hg (by rw [Nat.mul_one] at h4; exact h4)
    have hle := Lib.compact_length_le l
    refine (Tryz.slices_Compact_int g 0 c l w hH (by omega) h1).mono ?_
    rintro en w' ⟨rfl, q, rfl⟩
    have e := Go.Sort.grow_empty (Go.Sort.putRow (Value.int .i64) (Go.Sort.ahead w q) g 0 (Lib.compact l ++ List.replicate (l.length - (Lib.compact l).length) 0).toArray)
    rw [← e]
    refine ⟨rfl, ?_, Go.grownBy_sortedI _⟩
    by_cases hz : l.length = 0
    · have hl : l = [] := List.eq_nil_of_length_eq_zero hz
      subst hl
      exact Go.ownsRow_sortedI (ss := []) (ts := []) rfl hb hg h1 h2 h3
    · have h5 := Go.ownsRow_sortedI (n := q) (os := #[]) (ss := l) (ts := Lib.compact l ++ List.replicate (l.length - (Lib.compact l).length) 0) (by simp; omega) hb hg h1 h2 h3
      have h6 := own_popI h5 hle (by omega)
      rw [← List.map_take, List.take_left] at h6
      exact h6
theorem infoInt : (Tryz.prog.info? 3).map (fun i => (i.zero, i.size, i.bytes)) = some (some (.int .i64 0), 1, 8) := by kernel_rfl
theorem int_parts : ∃ i, Tryz.prog.info? 3 = some i ∧ i.zero = some (.int .i64 0) ∧ i.size = 1 ∧ i.bytes = 8 := by
  have h := infoInt
  cases hi : Tryz.prog.info? 3 with
  | none => rw [hi] at h; cases h
  | some i =>
    rw [hi] at h
    simp only [Option.map_some, Option.some.injEq, Prod.mk.injEq] at h
    exact ⟨i, rfl, h.1, h.2.1, h.2.2⟩
theorem new_int {w : World} {N : Nat} {x : Int} {ty : TypeId} (hN : N = w.heap.size) : ∀ j u, (intsV [x])[j]? = some u → (w.alloc (.cells #[.int .i64 x] ty)).cell? ((⟨N, 0, none⟩ : Addr).add j) = some u := by
  intro j u hu
  subst hN
  rw [Addr.add_lit, Nat.zero_add, World.cell?_alloc_mark]
  simpa [intsV] using hu
def rhosOf (l : List At) : List Int := (l.filter fun x => decide (x.k ≠ 3)).map (·.r)
theorem rhos_step (l : List At) (x : At) : rhosOf (l ++ [x]) = rhosOf l ++ if x.k = 3 then [] else [x.r] := by
  unfold rhosOf
  rw [List.filter_append, List.map_append]
  by_cases h : x.k = 3 <;> simp [h]
theorem RdI.of_own {B n c : Nat} {W : World} {a : Option Addr} {l : List Int} (h : Ixs B W (.slice a n c) n l) (hok : ∀ x ∈ l, -9223372036854775808 ≤ x ∧ x ≤ 9223372036854775807) : RdI W n a l := by
  have hl : l.length = n := by have := h.1; unfold intsV at this; rw [List.length_map] at this; omega
  refine ⟨hl, ?_, hok⟩
  by_cases h0 : n = 0
  · left; exact List.eq_nil_of_length_eq_zero (by omega)
  · rcases h.2 with ⟨_, h0'⟩ | ⟨g, cap, cur, hv, hb, hg, h1, _⟩
    · omega
    · injection hv with hv1 hv2 hv3
      subst hv1
      refine .inr ⟨g, 0, rfl, fun i hi => ?_⟩
      have := h.cells (g := g) rfl i (.int .i64 (nget l i)) (by unfold intsV; rw [List.getElem?_map, nget_at hi]; rfl)
      rw [Addr.add_lit] at this
      exact this
set_option maxRecDepth 100000 in
set_option maxHeartbeats 6400000 in
theorem rhos_walk {n c : Nat} {p : Option Addr} {rs : List (List At)} {w : World} (hl : rs.length = n) (hn : n ≤ 1000) (hr : RowsAt w p rs) (hs : rs.flatten.length ≤ 10000) (hok : ∀ x ∈ rs.flatten, x.x.size ≤ maxLen) : Calls Tryz.prog 42 #[.slice p n c] w fun e w' => ∃ a' m c', e = .returned (.slice a' m c') ∧ m ≤ 10000 ∧ Ixs w.heap.size w' (.slice a' m c') m (tidyI (rhosOf (ofA rs.flatten))) ∧ Below w.heap.size w w' := by
  obtain ⟨i0, hi, hz0, hz2, hz3⟩ := int_parts
  have HI := Lib.hid hi; have HZ0 := Lib.hid hz0; have HZ2 := Lib.hid hz2; have HZ3 := Lib.hid hz3
  have HC := Lib.hid (union_walk n c p rs w hl (by omega) hr (by omega) hok)
  have hle := of_le rs.flatten
  have hok2 := of_ok hok
  clear hi hz0 hz2 hz3 hl hr hok
  generalize ofA rs.flatten = u at *
  have HOK := Lib.hid hok2
  obtain ⟨m, hm⟩ : ∃ m, u.length = m := ⟨_, rfl⟩
  have HUL := Lib.hid hm
  have hmn : m ≤ 10000 := by omega
  clear hok2 hle hs hm
  go_enter Tryz.func42, Tryz.ntmps42
  go_wp2_with (fail)
  refine HC.out.mono ?_
  rintro e w1 ⟨v, rfl, hr1, hb1⟩
  obtain ⟨a1, c1, rfl⟩ := hr1.slice
  rw [HUL.out]
  have HR := Lib.hid (show AtsAt w1 a1 u from hr1.at.2); have HB := Lib.hid hb1
  clear hr1 hb1
  have HS1 := Lib.hid HB.out.size
  go_wp2_with (fail)
  go_loopw [3, 5, 9] (fun own _ i wr => ∃ (j k c2 : Nat) (a2 : Option Addr), j ≤ m ∧ k ≤ j ∧ i = .int .i64 (j : Int) ∧ own = .slice a2 k c2 ∧ Hid (Ixs w1.heap.size wr (.slice a2 k c2) k (rhosOf (u.take j))) ∧ Hid (Below w1.heap.size w1 wr ∧ w.heap.size ≤ w1.heap.size) ∧ Hid (Below w.heap.size w wr)) (fun _ _ i _ => m - (intOf i).toNat)
  case atStart => exact ⟨0, 0, 0, none, Nat.zero_le _, Nat.zero_le _, rfl, rfl, Lib.hid (World.ownsRow_nil _ _ _ _), Lib.hid ⟨Below.refl _ _, HS1.out⟩, HB⟩
  case round =>
    obtain ⟨j, k, c2, a2, hj, hkj, rfl, rfl, HT, HS, HSS⟩ := hrel
    by_cases hlt : j < m
    · have hjl : j < u.length := by rw [HUL.out]; exact hlt
      obtain ⟨b, o, rfl, e0, e1, e2⟩ := (HR.out.below HS.out.1).get j hjl
      have hx := HOK.out _ (aget_mem hjl)
      have htk := at_take u j hjl
      generalize aget u j = x at *
      have HX := Lib.hid hx; have HTK := Lib.hid htk
      have HCT := Lib.hid fun W => inRegion_walk x W
      clear hx htk hjl
      go_wp2_with (fail)
      refine (HCT.out _).mono ?_
      rintro e w2 ⟨rfl, hb2⟩
      have hB2 : Below wr.heap.size wr w2 := (al_new _).trans (hb2.mono (by simp))
      have HT2 := Lib.hid (own_below HT.out hB2); have HS2 := Lib.hid (below_then HS.out.1 hB2 HS.out.1.size); have HSS2 := Lib.hid (below_then HSS.out hB2 HSS.out.size)
      obtain ⟨⟨x0, x1, x2⟩, -, -⟩ := c3 ((hb2.block wr.heap.size (by simp)).trans (heap_alloc_new wr _))
      clear hb2 hB2 e0 e1 e2
      by_cases hk : x.k ≠ 3
      · rw [show decide (x.k ≠ 3) = true from decide_eq_true hk]
        have HK := Lib.hid hk
        clear hk
        go_wp2_with (at_builtin; refine wpList_append_own_at _ rfl (.tmp 15) (.tmp 18) 41 rfl w1.heap.size 3 i0 _ 1 8 Tryz.underlying41 HI.out HZ0.out HZ2.out HZ3.out rfl (by omega) (.slice a2 k c2) k (intsV (rhosOf (u.take j))) rfl (own_below HT2.out (al_new _)) _ 1 1 (intsV [x.r]) rfl rfl (new_int rfl) (by simp [intsV, Value.oneCell']) (by unfold maxLen; omega) (by omega) (by have := HS2.out.size; simp; omega) ?_; intro v' w3 hown hgr hnil hat; obtain ⟨a3, c3', rfl, -, -⟩ := own_slice hown; have HT3 := Lib.hid hown; have HSS3 := Lib.hid ((below_then HSS2.out (al_new _) HSS2.out.size).grown hgr (by have := HSS2.out.size; simp; omega) fun g hg => Nat.le_trans HS1.out (HT2.out.lt g hg).1); have HS3 := Lib.hid (And.intro ((below_then HS2.out (al_new _) HS2.out.size).grown hgr (by have := HS2.out.size; simp; omega) fun g hg => (HT2.out.lt g hg).1) HS.out.2); clear hown hgr hnil hat)
        go_roundw
        case rel => exact ⟨j + 1, k + 1, c3', a3, by omega, by omega, by go_num, rfl, Lib.hid (by have := HT3.out; unfold Ixs; rw [HTK.out, rhos_step, if_neg HK.out]; show World.ownsRow _ _ _ _ _ _ (intsV _); unfold intsV at this ⊢; rw [List.map_append]; exact this), HS3, HSS3⟩
        case measure => simp [intOf]; omega
      · rw [show decide (x.k ≠ 3) = false from decide_eq_false hk]
        have HK := Lib.hid (show x.k = 3 from Classical.not_not.1 hk)
        clear hk
        go_wp2_with (fail)
        go_roundw
        case rel => exact ⟨j + 1, k, c2, a2, by omega, by omega, by go_num, rfl, Lib.hid (by rw [HTK.out, rhos_step, if_pos HK.out, List.append_nil]; exact HT2.out), Lib.hid ⟨HS2.out, HS.out.2⟩, HSS2⟩
        case measure => simp [intOf]; omega
    · obtain rfl : j = m := by omega
      have ht := HT.out
      rw [List.take_of_length_le (by rw [HUL.out]; exact Nat.le_refl _)] at ht
      have HT' := Lib.hid ht
      have HSO := Lib.hid (sortI_walk _ k c2 a2 _ wr ht (by omega))
      clear ht
      go_wp2_with (fail)
      refine HSO.out.mono ?_
      rintro e w3 ⟨rfl, hs3, hg3⟩
      have HB3 := Lib.hid (HSS.out.grown hg3 HSS.out.size fun g hg => Nat.le_trans HS1.out (HT'.out.lt g hg).1)
      have HCO := Lib.hid (compactI_walk _ k c2 a2 _ w3 hs3 (by omega))
      have HS3' := Lib.hid hs3
      have hle := Lib.compact_length_le ((rhosOf u).mergeSort fun x y => decide (x ≤ y))
      have hlk : ((rhosOf u).mergeSort fun x y => decide (x ≤ y)).length = k := by have := hs3.1; unfold intsV at this; rw [List.length_map] at this; omega
      rw [hlk] at hle
      generalize hq : (Lib.compact ((rhosOf u).mergeSort fun x y => decide (x ≤ y))).length = q at *
      have HQ := Lib.hid hq
      clear hs3 hg3 hlk hq
      go_wp2_with (fail)
      refine HCO.out.mono ?_
      rintro e w4 ⟨rfl, hs4, hg4⟩
      have HB4 := Lib.hid (HB3.out.grown hg4 HB3.out.size fun g hg => Nat.le_trans HS1.out (HS3'.out.lt g hg).1)
      have HS4 := Lib.hid hs4
      clear hs4 hg4
      go_wp2_with (fail)
      go_ret
      exact ⟨a2, q, c2, rfl, by omega, own_lower HS4.out HS1.out, HB4.out⟩
end Effect
end Go.Proofs.YtabegjpledammaaGreatDoor
namespace Go.Proofs.YtabegjpledammaaGreatDoor
open Go.RowKit
set_option linter.unusedVariables false
set_option linter.unusedSimpArgs false
namespace Effect

end Effect
end Go.Proofs.YtabegjpledammaaGreatDoor
namespace Go.Proofs.YtabegjpledammaaGreatDoor
open Go.RowKit
set_option linter.unusedVariables false
set_option linter.unusedSimpArgs false
namespace Effect

/-- Rows that are read. -/
structure RdR (w : World) (n : Nat) (p : Option Addr) (rs : List (List At)) : Prop where
  len : rs.length = n
  at_ : RowsAt w p rs
  ok : ∀ r ∈ rs, ∀ x ∈ r, x.x.size ≤ maxLen
  nn : ∀ r ∈ rs, r.length ≤ maxLen
theorem RdR.below {w W : World} {n : Nat} {p : Option Addr} {rs : List (List At)} (h : RdR w n p rs) (hb : Below w.heap.size w W) : RdR W n p rs := ⟨h.len, h.at_.below hb, h.ok, h.nn⟩
theorem RdR.row {w : World} {n : Nat} {p : Option Addr} {rs : List (List At)} (h : RdR w n p rs) (i : Nat) (hi : i < rs.length) : ∃ b o q c m, p = some ⟨b, o, none⟩ ∧ w.cell? ⟨b, o + i, none⟩ = some (.slice q m c) ∧ Rd w m q (rget rs i) ∧ m ≤ maxLen := by
  obtain ⟨b, o, q, c, hp, h1, h2⟩ := h.at_.get i hi
  exact ⟨b, o, q, c, _, hp, h1, ⟨rfl, h2, h.ok _ (rget_mem hi)⟩, h.nn _ (rget_mem hi)⟩
end Effect
end Go.Proofs.YtabegjpledammaaGreatDoor
namespace Go.Proofs.YtabegjpledammaaGreatDoor
open Go.RowKit
set_option linter.unusedVariables false
set_option linter.unusedSimpArgs false
namespace Effect

theorem ints_take (l : List Int) (j : Nat) (hj : j < l.length) : l.take (j + 1) = l.take j ++ [nget l j] := by
  rw [List.take_add_one, nget_at hj]; rfl
set_option maxRecDepth 100000 in
set_option maxHeartbeats 6400000 in
theorem equalInts_walk {n c m d : Nat} {a b : Option Addr} {l k : List Int} {w : World} (h : RdI w n a l) (h2 : RdI w m b k) (hn : n ≤ 100000) (hm : m ≤ 100000) (hlk : l = k) : Calls Tryz.prog 23 #[.slice a n c, .slice b m d] w fun e w' => e = .returned (.bool true) ∧ Below w.heap.size w w' := by
  have mixed : Tryz.prog.follows .mixedOrders = true := by kernel_rfl
  subst hlk
  obtain rfl : n = m := by rw [← h.len, ← h2.len]
  have H := Lib.hid h; have H2 := Lib.hid h2
  clear h h2
  go_enter Tryz.func23, Tryz.ntmps23
  go_wp2_with (fail)
  go_loopg [5, 13] n (fun gh _ i wr => ∃ j q : Nat, j ≤ n ∧ n - j ≤ gh ∧ i = .int .i64 (j : Int) ∧ wr = w.drewN q)
  case atStart => exact ⟨0, 0, Nat.zero_le _, by omega, rfl, rfl⟩
  case round =>
    obtain ⟨j, q, hj, hgh, rfl, rfl⟩ := hrel
    by_cases hlt : j < n
    · have hjl : j < l.length := by rw [H.out.len]; exact hlt
      obtain ⟨b1, o1, rfl, e0⟩ := H.out.get j hjl
      obtain ⟨b2, o2, rfl, e1⟩ := H2.out.get j hjl
      generalize nget l j = x at *
      have hxx : (x == x) = true := by simp
      clear hjl
      go_wp2_with (fail)
      go_region_o
      clear hxx e0 e1
      go_wp2_with (fail)
      go_roundg (n - (j + 1))
      case measure => omega
      case rel => exact ⟨j + 1, q + 1, by omega, by omega, by go_num, rfl⟩
    · go_wp2_with (fail)
      go_ret
      exact ⟨rfl, ⟨rfl, rfl, rfl, Nat.le_refl _, fun _ _ => rfl⟩⟩
/-! ### A rising row with one more -/
def insI (x : Int) : List Int → List Int
  | [] => [x]
  | y :: l => if x < y then x :: y :: l else y :: insI x l
def putI (l : List Int) (x : Int) : List Int := if l.contains x = true then l else insI x l
theorem mem_insI (x y : Int) : ∀ l, y ∈ insI x l ↔ y = x ∨ y ∈ l
  | [] => by simp [insI]
  | z :: l => by
    unfold insI
    split
    · simp
    · rw [List.mem_cons, mem_insI x y l, List.mem_cons]
      exact ⟨fun h => by rcases h with h | h | h <;> simp [h], fun h => by rcases h with h | h | h <;> simp [h]⟩
def UpI (l : List Int) : Prop := l.Pairwise (· < ·)
theorem up_insI {x : Int} : ∀ {l : List Int}, UpI l → x ∉ l → UpI (insI x l)
  | [], _, _ => List.pairwise_singleton _ _
  | z :: l, h, hn => by
    have h' := List.pairwise_cons.1 h
    unfold insI
    split
    · rename_i hl
      refine List.pairwise_cons.2 ⟨fun b hb => ?_, h⟩
      rcases List.mem_cons.1 hb with rfl | hb
      · exact hl
      · have := h'.1 b hb; omega
    · rename_i hl
      refine List.pairwise_cons.2 ⟨fun b hb => ?_, up_insI h'.2 fun hx => hn (by simp [hx])⟩
      rcases (mem_insI x b l).1 hb with rfl | hb
      · have : b ≠ z := fun e => hn (by simp [e])
        omega
      · exact h'.1 b hb
theorem mem_putI (l : List Int) (x y : Int) : y ∈ putI l x ↔ y ∈ l ∨ y = x := by
  unfold putI
  split
  · rename_i h
    have hx : x ∈ l := by simpa using h
    exact ⟨.inl, fun h => h.elim id fun e => by rw [e]; exact hx⟩
  · rw [mem_insI]; exact Or.comm
theorem up_putI {l : List Int} (h : UpI l) (x : Int) : UpI (putI l x) := by
  unfold putI
  split
  · exact h
  · rename_i hn
    exact up_insI h (by simpa using hn)
theorem fold_putI : ∀ (k l : List Int), UpI l → UpI (k.foldl putI l) ∧ ∀ y, y ∈ k.foldl putI l ↔ y ∈ l ∨ y ∈ k
  | [], l, h => ⟨h, fun y => by simp⟩
  | x :: k, l, h => by
    obtain ⟨h1, h2⟩ := fold_putI k (putI l x) (up_putI h x)
    refine ⟨h1, fun y => ?_⟩
    show y ∈ k.foldl putI (putI l x) ↔ _
    rw [h2, mem_putI, List.mem_cons, or_assoc]
theorem upI_uniq : ∀ {l m : List Int}, UpI l → UpI m → (∀ a, a ∈ l ↔ a ∈ m) → l = m
  | [], [], _, _, _ => rfl
  | [], b :: m, _, _, h => by have := (h b).2 (by simp); cases this
  | a :: l, [], _, _, h => by have := (h a).1 (by simp); cases this
  | a :: l, b :: m, hl, hm, h => by
    have hl' := List.pairwise_cons.1 hl
    have hm' := List.pairwise_cons.1 hm
    have e : a = b := by
      rcases List.mem_cons.1 ((h a).1 (by simp)) with e | ha
      · exact e
      · rcases List.mem_cons.1 ((h b).2 (by simp)) with e | hb
        · exact e.symm
        · have h1 := hm'.1 a ha
          have h2 := hl'.1 b hb
          omega
    subst e
    congr 1
    refine upI_uniq hl'.2 hm'.2 fun x => ⟨fun hx => ?_, fun hx => ?_⟩
    · rcases List.mem_cons.1 ((h x).1 (by simp [hx])) with e | h3
      · have := hl'.1 x hx; omega
      · exact h3
    · rcases List.mem_cons.1 ((h x).2 (by simp [hx])) with e | h3
      · have := hm'.1 x hx; omega
      · exact h3
theorem up_sortedI {d : Array Int} (hs : ∀ i j, i < j → j < d.size → d[i]! ≤ d[j]!) : ∀ (m : Nat), m ≤ d.size → (Lib.compactUpTo d m).Pairwise (· < ·) ∧ ∀ x ∈ Lib.compactUpTo d m, x ≤ d[m - 1]!
  | 0, _ => ⟨by simp [Lib.compactUpTo], fun x hx => by simp [Lib.compactUpTo] at hx⟩
  | m + 1, hm => by
    obtain ⟨h1, h2⟩ := up_sortedI hs m (by omega)
    have hle : ∀ x ∈ Lib.compactUpTo d m, x ≤ d[m]! := fun x hx => by
      have hm0 : 0 < m := by
        rcases Nat.eq_zero_or_pos m with q | q
        · subst q; simp [Lib.compactUpTo] at hx
        · exact q
      exact Int.le_trans (h2 x hx) (hs (m - 1) m (by omega) (by omega))
    rw [Lib.compactUpTo_succ]
    by_cases hk : Lib.keeps d m = true
    · rw [if_pos hk]
      refine ⟨List.pairwise_append.2 ⟨h1, by simp, fun x hx y hy => ?_⟩, fun x hx => ?_⟩
      · rw [List.mem_singleton] at hy
        subst hy
        have hk' : m = 0 ∨ d[m]! ≠ d[m - 1]! := by simpa [Lib.keeps] using hk
        rcases hk' with q | q
        · subst q; simp [Lib.compactUpTo] at hx
        · have a := h2 x hx
          have hm0 : 0 < m := by
            rcases Nat.eq_zero_or_pos m with z | z
            · subst z; simp [Lib.compactUpTo] at hx
            · exact z
          have b := hs (m - 1) m (by omega) (by omega)
          have q' : d[m - 1]! ≠ d[m]! := fun e => q e.symm
          omega
      · rcases List.mem_append.1 hx with hx | hx
        · exact hle x hx
        · rw [List.mem_singleton] at hx; subst hx; exact Int.le_refl _
    · rw [if_neg hk, List.append_nil]
      exact ⟨h1, hle⟩
theorem up_tidy (l : List Int) : UpI (tidyI l) := by
  have hs : (l.mergeSort fun x y => decide (x ≤ y)).Pairwise (fun x y => decide (x ≤ y) = true) := List.pairwise_mergeSort (fun a b c h1 h2 => by have := of_decide_eq_true h1; have := of_decide_eq_true h2; exact decide_eq_true (by omega)) (fun a b => by by_cases h : a ≤ b <;> simp [h]; omega) l
  unfold tidyI
  generalize l.mergeSort (fun x y => decide (x ≤ y)) = k at hs
  exact (up_sortedI (d := k.toArray) (fun i j hij hj => by
    have hj' : j < k.length := by simpa using hj
    have := List.pairwise_iff_getElem.1 hs i j (by omega) hj' hij
    have := of_decide_eq_true this
    simpa [hj', show i < k.length by omega] using this) k.length (by simp)).1
theorem tidy_fold (l : List Int) : tidyI l = l.foldl putI [] := by
  obtain ⟨h1, h2⟩ := fold_putI l [] List.Pairwise.nil
  exact upI_uniq (up_tidy l) h1 fun y => by rw [mem_tidy, h2]; simp
end Effect
end Go.Proofs.YtabegjpledammaaGreatDoor
