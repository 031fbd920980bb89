/-slices.DeleteFunc of a row of ints of one's own. (Written by wip/tools/undel.py.) slices.DeleteFunc of a row of ints, with the function (*enclave/unify.Book).within$3. (Written by wip/tools/undel.py.) slices.Clone of a row of ints; what a step of within asks. within's closures over a type's variables. A type's variables, in their order, are put into a row in a box. -/
import Derived.Test.YtjchplgapaeagaaDoorGV14
import Derived.Lib.SliceRun
import Derived.Test.YtjchplgapaeagaaDoorGV07
namespace Go.Proofs.YtjchplgapaeagaaDoor
open Go.RowKit
set_option linter.unusedVariables false
set_option linter.unusedSimpArgs false
namespace Types

theorem getD_at {l : List Int} {j : Nat} (h : j < l.length) : l.getD j 0 = l[j]'h := by rw [List.getD_eq_getElem?_getD, List.getElem?_eq_getElem h]; rfl
theorem own_block {w : World} {base g n c : Nat} {e : TypeId} {xs : List Value} (h : w.ownsRow base e 1 (.slice (some ⟨g, 0, none⟩) n c) n xs) : ∃ cur : Array Value, w.heap[g]? = some (.cells cur e (0, 0)) ∧ n ≤ c ∧ c ≤ maxLen ∧ cur.size = c ∧ cur.toList.take n = xs ∧ base ≤ g := by
  rcases h.2 with ⟨hv, _⟩ | ⟨g', cap, cur, hv, hb, hg, h1, h2, h3, h4⟩
  · cases hv
  · cases hv
    rw [Nat.mul_one] at h3 h4
    exact ⟨cur, hg, h1, h2, h3, h4, hb⟩
theorem own_frozen {w : World} {base g n c : Nat} {e : TypeId} {xs : List Value} (h : w.ownsRow base e 1 (.slice (some ⟨g, 0, none⟩) n c) n xs) (i : Nat) : w.frozen? ⟨g, i, none⟩ = false := by
  obtain ⟨cur, hg, _⟩ := own_block h
  simp [World.frozen?, hg]
theorem own_some {w : World} {base g n c : Nat} {e : TypeId} {xs : List Value} (h : w.ownsRow base e 1 (.slice (some ⟨g, 0, none⟩) n c) n xs) {i : Nat} (hi : i < n) : (w.cell? ⟨g, i, none⟩).isSome = true := by
  obtain ⟨cur, hg, h1, _, h3, _⟩ := own_block h
  have : i < cur.size := by omega
  simp [World.cell?, hg, this]
theorem own_put1 {w : World} {base g n c : Nat} {e : TypeId} {xs : List Value} (h : w.ownsRow base e 1 (.slice (some ⟨g, 0, none⟩) n c) n xs) {i : Nat} {v : Value} (hi : i < n) : (w.setCell ⟨g, i, none⟩ v).ownsRow base e 1 (.slice (some ⟨g, 0, none⟩) n c) n (xs.set i v) := by
  obtain ⟨cur, hg, h1, h2, h3, h4, hb⟩ := own_block h
  have hl := h.1
  refine ⟨by rw [List.length_set]; exact hl, .inr ⟨g, c, cur.set! i v, rfl, hb, ?_, h1, h2, by simp [h3], ?_⟩⟩
  · simp [World.setCell, Array.getElem?_modify, hg]
  · rw [Nat.mul_one, ← h4]
    simp [List.take_set]
theorem own_clear {w : World} {base g n c : Nat} {e : TypeId} {xs : List Value} (h : w.ownsRow base e 1 (.slice (some ⟨g, 0, none⟩) n c) n xs) {i : Nat} (hi : i ≤ n) : (w.setCells g i (List.replicate (n - i) (.int .i64 0))).ownsRow base e 1 (.slice (some ⟨g, 0, none⟩) i c) i (xs.take (i * 1)) ∧ Kp (fun b => decide ((Value.slice (some ⟨g, 0, none⟩) n c).ownBlock ≠ some b)) w (w.setCells g i (List.replicate (n - i) (.int .i64 0))) ∧ True := by
  have key : ∀ (vs : List Value) (o : Nat) (w : World), i ≤ o → o + vs.length ≤ n → w.ownsRow base e 1 (.slice (some ⟨g, 0, none⟩) n c) n xs ∨ True → ∀ xs', w.ownsRow base e 1 (.slice (some ⟨g, 0, none⟩) n c) n xs' → ∃ ys, (w.setCells g o vs).ownsRow base e 1 (.slice (some ⟨g, 0, none⟩) n c) n ys ∧ ys.take i = xs'.take i ∧ Kp (fun b => decide ((Value.slice (some ⟨g, 0, none⟩) n c).ownBlock ≠ some b)) w (w.setCells g o vs) := by
    intro vs
    induction vs with
    | nil => intro o w _ _ _ xs' hx; exact ⟨xs', hx, rfl, Kp.refl _ _⟩
    | cons v vs ih =>
      intro o w ho hl _ xs' hx
      simp only [List.length_cons] at hl
      obtain ⟨ys, h1, h2, h3⟩ := ih (o + 1) (w.setCell ⟨g, o, none⟩ v) (by omega) (by omega) (.inr trivial) _ (own_put1 hx (i := o) (v := v) (by omega))
      have hk : Kp (fun b => decide ((Value.slice (some ⟨g, 0, none⟩) n c).ownBlock ≠ some b)) w (w.setCell ⟨g, o, none⟩ v) := (Kp.refl _ _).set (decide_eq_false fun h => h rfl) o v
      exact ⟨ys, h1, by rw [h2, List.take_set_of_le ho], hk.trans h3⟩
  obtain ⟨ys, h1, h2, h3⟩ := key (List.replicate (n - i) (.int .i64 0)) i w (Nat.le_refl _) (by simp; omega) (.inr trivial) xs h
  refine ⟨?_, h3, trivial⟩
  by_cases h0 : n = 0
  · have hi0 : i = 0 := by omega
    subst hi0
    have := own_pop (m := 0) (n := n) h1 (by omega)
    obtain ⟨cur, hg, q1, q2, q3, q4, hb⟩ := own_block h1
    exact ⟨by simp, .inr ⟨g, c, cur, rfl, hb, hg, by omega, q2, by rw [Nat.mul_one]; exact q3, by simp⟩⟩
  · have := own_pop (m := i) h1 hi (by omega)
    rw [Nat.mul_one, h2] at this
    rw [Nat.mul_one]
    exact this
end Types
end Go.Proofs.YtjchplgapaeagaaDoor
namespace Go.Proofs.YtjchplgapaeagaaDoor
open Go.RowKit Go.Lib
set_option linter.unusedVariables false
set_option linter.unusedSimpArgs false
namespace Types

set_option maxRecDepth 100000 in
set_option maxHeartbeats 6400000 in
theorem indexW (kk : Value) (pred : Int → Bool) (Inv : World → Prop) (l : List Int) (hC : ∀ v W, v ∈ l → Inv W → Calls Tryd.prog 74 #[.int .i64 v, kk] W fun en W' => en = .returned (.bool (pred v)) ∧ Below W.heap.size W W')
    (hI : ∀ W W', Inv W → Below W.heap.size W W' → Inv W') (a : Option Addr) (n c : Nat) (w : World) (hN : n = l.length) (hn : n < 8000000000) (hr : ∀ j, j < n → ∃ g, a = some ⟨g, 0, none⟩ ∧ g < w.heap.size ∧ w.cell? ⟨g, j, none⟩ = some (.int .i64 (l.getD j 0))) (hw : Inv w) :
    Calls Tryd.prog 71 #[.slice a n c, (.func (.func 74) #[] #[kk])] w fun en w' => ((en = .returned (.int .i64 (-1)) ∧ ∀ v ∈ l, pred v = false) ∨ (∃ i : Nat, i < n ∧ en = .returned (.int .i64 (i : Int)) ∧ (∀ v ∈ l.take i, pred v = false) ∧ pred (l.getD i 0) = true)) ∧ Below w.heap.size w w' := by
  have HC := Lib.hid hC; have HI := Lib.hid hI; have HR := Lib.hid hr; have HW0 := Lib.hid hw; have HNN := Lib.hid hN
  clear hC hI hr hw hN
  go_enter Tryd.func71, Tryd.ntmps71
  go_wp2_with (fail)
  go_loopw [8] (fun i wr => ∃ j : Nat, j ≤ n ∧ i = .int .i64 j ∧ Hid (Below w.heap.size w wr) ∧ Hid (∀ v ∈ l.take j, pred v = false)) (fun i _ => n - (intOf i).toNat)
  case atStart => exact ⟨0, Nat.zero_le _, rfl, Lib.hid (Below.refl _ _), Lib.hid (fun v hv => by cases hv)⟩
  case round =>
    obtain ⟨j, hj, rfl, HW, HA⟩ := hrel
    by_cases hlt : j < n
    · obtain ⟨g, rfl, hg, hc0⟩ := HR.out j hlt
      have hc : wr.cell? ⟨g, j, none⟩ = some (.int .i64 (l.getD j 0)) := (cell_same (HW.out.block g hg)).trans hc0
      have hjl : j < l.length := by rw [← HNN.out]; exact hlt
      have hmem : l.getD j 0 ∈ l := by rw [List.getD_eq_getElem?_getD, List.getElem?_eq_getElem hjl]; exact List.getElem_mem _
      obtain ⟨x, hx⟩ : ∃ x, x = l.getD j 0 := ⟨_, rfl⟩
      rw [← hx] at hc hmem
      have hcl := HC.out x wr hmem (HI.out _ _ HW0.out HW.out)
      have HCL := Lib.hid hcl; have HX := Lib.hid (And.intro hx hjl)
      clear hc0 hcl hmem hx hjl hg
      go_wp2_with (fail)
      refine HCL.out.mono ?_
      rintro en w1 ⟨rfl, hb1⟩
      have HW1 := Lib.hid (HW.out.trans (hb1.mono HW.out.size))
      clear hb1 hc HCL
      cases hp : pred x with
      | true =>
        have HP := Lib.hid hp
        clear hp
        go_wp2_with (fail)
        go_ret
        exact ⟨.inr ⟨j, hlt, rfl, HA.out, by rw [← HX.out.1]; exact HP.out⟩, HW1.out⟩
      | false =>
        have HP := Lib.hid hp
        clear hp
        go_wp2_with (fail)
        go_roundw
        case rel => exact ⟨j + 1, by omega, by go_num, HW1, Lib.hid (fun v hv => by
          rw [List.take_add_one, List.getElem?_eq_getElem HX.out.2] at hv
          rcases List.mem_append.1 hv with hv | hv
          · exact HA.out v hv
          · have e : v = l[j]'HX.out.2 := by simpa using hv
            have e2 : x = l[j]'HX.out.2 := HX.out.1.trans (getD_at HX.out.2)
            rw [e, ← e2]; exact HP.out)⟩
        case measure => simp [intOf]; omega
    · obtain rfl : j = n := by omega
      go_wp2_with (fail)
      go_ret
      exact ⟨.inl ⟨rfl, fun v hv => HA.out v (by rw [List.take_of_length_le (by rw [← HNN.out]; exact Nat.le_refl _)]; exact hv)⟩, HW.out⟩
set_option maxRecDepth 100000 in
set_option maxHeartbeats 12800000 in
theorem deleteW (kk : Value) (pred : Int → Bool) (Inv : World → Prop) (l : List Int) (a : Option Addr) (n c base : Nat) (hC : ∀ v W, v ∈ l → Inv W → Calls Tryd.prog 74 #[.int .i64 v, kk] W fun en W' => en = .returned (.bool (pred v)) ∧ Below W.heap.size W W')
    (hI : ∀ W W', Inv W → Kp (fun b => decide ((Value.slice a n c).ownBlock ≠ some b)) W W' → Inv W') (w : World) (hN : n = l.length) (hn : n < 8000000000) (hown : w.ownsRow base 3 1 (.slice a n c) n (ints l)) (hw : Inv w) :
    Calls Tryd.prog 55 #[.slice a n c, (.func (.func 74) #[] #[kk])] w fun en w' => en = .returned (.slice a (l.filter fun v => !pred v).length c) ∧ w'.ownsRow base 3 1 (.slice a (l.filter fun v => !pred v).length c) (l.filter fun v => !pred v).length (ints (l.filter fun v => !pred v)) ∧ Kp (fun b => decide ((Value.slice a n c).ownBlock ≠ some b)) w w' := by
  have hrow : ∀ W : World, W.ownsRow base 3 1 (.slice a n c) n (ints l) → ∀ j, j < n → ∃ g, a = some ⟨g, 0, none⟩ ∧ g < W.heap.size ∧ W.cell? ⟨g, j, none⟩ = some (.int .i64 (l.getD j 0)) := fun W h j hj => by
    obtain ⟨g, rfl, hg⟩ := own_at h (by omega)
    refine ⟨g, rfl, (own_row_lt h rfl).1, row_cell h ?_⟩
    unfold ints
    rw [List.getElem?_map, List.getElem?_eq_getElem (by omega), List.getD_eq_getElem?_getD, List.getElem?_eq_getElem (by omega)]
    rfl
  have hidx := indexW kk pred Inv l hC (fun W W' h hb => hI W W' h (Kp.of_below hb)) a n c w hN hn (hrow w hown) hw
  have HIDX := Lib.hid hidx; have HC := Lib.hid hC; have HI := Lib.hid hI; have HNN := Lib.hid hN; have HOW := Lib.hid hown; have HW0 := Lib.hid hw
  clear hidx hC hI hN hown hw hrow
  go_enter Tryd.func55, Tryd.ntmps55
  go_wp2_with (fail)
  refine HIDX.out.mono ?_
  rintro en w1 ⟨hor, hb1⟩
  have hnl := HNN.out
  rcases hor with ⟨rfl, hno⟩ | ⟨i0, hi0, rfl, hbef, hat⟩
  · have hf : (l.filter fun v => !pred v) = l := List.filter_eq_self.2 fun v hv => by rw [hno v hv]; rfl
    have HFIN := Lib.hid (show (Ending.returned (.slice a n c)) = .returned (.slice a (l.filter fun v => !pred v).length c) ∧ w1.ownsRow base 3 1 (.slice a (l.filter fun v => !pred v).length c) (l.filter fun v => !pred v).length (ints (l.filter fun v => !pred v)) ∧ Kp (fun b => decide ((Value.slice a n c).ownBlock ≠ some b)) w w1 from by
      rw [hf, ← HNN.out]; exact ⟨rfl, own_all HOW.out hb1, Kp.of_below hb1⟩)
    clear hf hb1 hno HIDX hnl
    go_wp2_with (fail)
    exact bodyPost_ret (by simp [results, Tryd.results55, go_sem]) rfl HFIN.out
  · obtain ⟨g, rfl, hgb⟩ := own_at HOW.out (by omega)
    have hcap : n ≤ c ∧ c ≤ maxLen := by obtain ⟨_, _, hv, h1, h2⟩ := own_slice HOW.out; cases hv; exact ⟨h2, h1⟩
    have hneg : ((i0 : Int) == -1) = false := beq_eq_false_iff_ne.2 (by omega)
    have hlt0 : i0 < l.length := by omega
    have hF0 : (l.take (i0 + 1)).filter (fun v => !pred v) = l.take i0 := by
      rw [List.take_add_one, List.getElem?_eq_getElem hlt0, List.filter_append]
      have e1 : (l.take i0).filter (fun v => !pred v) = l.take i0 := List.filter_eq_self.2 fun v hv => by rw [hbef v hv]; rfl
      have e2 : pred (l[i0]) = true := by rw [List.getD_eq_getElem?_getD, List.getElem?_eq_getElem hlt0] at hat; exact hat
      rw [e1]
      simp [e2]
    have hl0 : l = l.take i0 ++ [l[i0]] ++ l.drop (i0 + 1) := by
      conv => lhs; rw [← List.take_append_drop (i0 + 1) l, List.take_add_one, List.getElem?_eq_getElem hlt0]
      rfl
    have HROW := Lib.hid (show ∃ gs : List Int, w1.ownsRow base 3 1 (.slice (some ⟨g, 0, none⟩) n c) n (ints ((l.take (i0 + 1)).filter (fun v => !pred v) ++ gs ++ l.drop (i0 + 1))) ∧ ((l.take (i0 + 1)).filter (fun v => !pred v)).length = i0 ∧ i0 + gs.length = i0 + 1 from
      ⟨[l[i0]], by rw [hF0, ← hl0]; exact own_all HOW.out hb1, by rw [hF0, List.length_take]; omega, rfl⟩)
    have HKW := Lib.hid (Kp.of_below (P := fun b => decide ((Value.slice (some ⟨g, 0, none⟩) n c).ownBlock ≠ some b)) hb1)
    have hcI : (n : Int) ≤ (c : Int) := by omega
    clear hF0 hl0 hb1 hbef hat hlt0 HIDX hnl
    unfold maxLen at hcap
    go_wp2_with (fail)
    go_loopw [5, 6] (fun si sj wr => ∃ (i j : Nat), i < j ∧ j ≤ n ∧ si = .int .i64 i ∧ sj = .int .i64 j ∧ Hid (∃ gs : List Int, wr.ownsRow base 3 1 (.slice (some ⟨g, 0, none⟩) n c) n (ints ((l.take j).filter (fun v => !pred v) ++ gs ++ l.drop j)) ∧ ((l.take j).filter (fun v => !pred v)).length = i ∧ i + gs.length = j) ∧ Hid (Kp (fun b => decide ((Value.slice (some ⟨g, 0, none⟩) n c).ownBlock ≠ some b)) w wr)) (fun _ sj _ => n - (intOf sj).toNat)
    case atStart => exact ⟨i0, i0 + 1, by omega, by omega, rfl, by go_num, HROW, HKW⟩
    case round =>
      obtain ⟨i, j, hij, hj, rfl, rfl, HG, HK⟩ := hrel
      clear HROW HKW
      obtain ⟨gs, hg1, hg2, hg3⟩ := HG.out
      have hnl := HNN.out
      by_cases hlt : j < n
      · have hjl : j < l.length := by omega
        have hdr : l.drop j = l[j] :: l.drop (j + 1) := List.drop_eq_getElem_cons hjl
        obtain ⟨x, hx⟩ : ∃ x, x = l[j] := ⟨_, rfl⟩
        rw [← hx] at hdr
        obtain ⟨F, hF⟩ : ∃ F, F = (l.take j).filter (fun v => !pred v) := ⟨_, rfl⟩
        rw [← hF] at hg1 hg2
        rw [hdr] at hg1
        have hxl : x ∈ l := by rw [hx]; exact List.getElem_mem _
        have hF1 : (l.take (j + 1)).filter (fun v => !pred v) = F ++ [x].filter (fun v => !pred v) := by
          rw [List.take_add_one, List.getElem?_eq_getElem hjl, List.filter_append, ← hF, hx]; rfl
        have hcx : wr.cell? ⟨g, j, none⟩ = some (.int .i64 x) := row_cell hg1 (by
          unfold ints
          rw [List.getElem?_map, List.getElem?_append_right (by rw [List.length_append]; omega), List.length_append]
          have : j - (F.length + gs.length) = 0 := by omega
          rw [this]; rfl)
        have hcl := HC.out x wr hxl (HI.out _ _ HW0.out HK.out)
        have hcF : wr.frozen? ⟨g, i, none⟩ = false := own_frozen hg1 i
        have hci : (wr.cell? ⟨g, i, none⟩).isSome = true := own_some hg1 (by omega)
        have HCL := Lib.hid hcl; have HG1 := Lib.hid hg1; have HF1 := Lib.hid hF1; have HGS := Lib.hid (And.intro hg2 hg3)
        have hiI : (i : Int) < (n : Int) := by omega
        clear hcl hg1 hF1 hg2 hg3 hF hx hdr hxl hcF hci hjl hnl
        go_wp2_with (fail)
        refine HCL.out.mono ?_
        rintro en w2 ⟨rfl, hb2⟩
        have HO2 := Lib.hid (own_all HG1.out hb2)
        have HK2 := Lib.hid (HK.out.trans (Kp.of_below hb2))
        clear hb2 hcx HCL HG1
        cases hp : pred x with
        | true =>
          have HN := Lib.hid (show ∃ gs : List Int, w2.ownsRow base 3 1 (.slice (some ⟨g, 0, none⟩) n c) n (ints ((l.take (j + 1)).filter (fun v => !pred v) ++ gs ++ l.drop (j + 1))) ∧ ((l.take (j + 1)).filter (fun v => !pred v)).length = i ∧ i + gs.length = j + 1 from
            ⟨gs ++ [x], by rw [HF1.out]; simp only [List.filter_cons, hp, Bool.not_true, Bool.false_eq_true, if_false, List.filter_nil, List.append_nil]; simpa [List.append_assoc] using HO2.out, by rw [HF1.out]; simp [hp]; exact HGS.out.1, by rw [List.length_append]; have := HGS.out.2; simp; omega⟩)
          clear hp
          go_wp2_with (fail)
          go_roundw
          case rel => exact ⟨i, j + 1, by omega, by omega, rfl, by go_num, HN, HK2⟩
          case measure => simp [intOf]; omega
        | false =>
          obtain ⟨y, gt, hgt⟩ : ∃ y gt, gs = y :: gt := by
            cases gs with
            | nil => have := HGS.out.2; simp at this; omega
            | cons y gt => exact ⟨y, gt, rfl⟩
          have hset := own_put1 HO2.out (i := i) (v := .int .i64 x) (by omega)
          have e : (ints (F ++ gs ++ x :: l.drop (j + 1))).set i (.int .i64 x) = ints ((l.take (j + 1)).filter (fun v => !pred v) ++ (gt ++ [x]) ++ l.drop (j + 1)) := by
            rw [HF1.out, hgt]
            simp only [List.filter_cons, hp, Bool.not_false, if_true, List.filter_nil]
            unfold ints
            rw [← List.map_set, List.append_assoc, List.set_append_right _ _ (by have := HGS.out.1; omega)]
            have h0 : i - F.length = 0 := by have := HGS.out.1; omega
            rw [h0]
            simp
          rw [e] at hset
          have HN := Lib.hid (show ∃ gs : List Int, (w2.setCell ⟨g, i, none⟩ (.int .i64 x)).ownsRow base 3 1 (.slice (some ⟨g, 0, none⟩) n c) n (ints ((l.take (j + 1)).filter (fun v => !pred v) ++ gs ++ l.drop (j + 1))) ∧ ((l.take (j + 1)).filter (fun v => !pred v)).length = i + 1 ∧ (i + 1) + gs.length = j + 1 from
            ⟨gt ++ [x], hset, by rw [HF1.out]; simp [hp]; exact HGS.out.1, by have := HGS.out.2; rw [hgt] at this; simp at this ⊢; omega⟩)
          have HK3 := Lib.hid (show Kp (fun b => decide ((Value.slice (some ⟨g, 0, none⟩) n c).ownBlock ≠ some b)) w (w2.setCell ⟨g, i, none⟩ (.int .i64 x)) from HK2.out.set (decide_eq_false fun h => h rfl) i _)
          have hc2 : (w2.cell? ⟨g, i, none⟩).isSome = true := own_some HO2.out (by omega)
          obtain ⟨vo, hvo⟩ := Option.isSome_iff_exists.1 hc2
          have hfr : w2.frozen? ⟨g, i, none⟩ = false := own_frozen HO2.out i
          clear hp e hset hgt hc2
          go_wp2_with (fail)
          go_roundw
          case rel => exact ⟨i + 1, j + 1, by omega, by omega, by go_num, by go_num, HN, HK3⟩
          case measure => simp [intOf]; omega
      · obtain rfl : j = n := by omega
        have hdl : l.drop j = [] := List.drop_eq_nil_of_le (by omega)
        have htk : l.take j = l := List.take_of_length_le (by omega)
        rw [hdl, htk, List.append_nil] at hg1
        rw [htk] at hg2
        obtain ⟨F, hF⟩ : ∃ F, F = l.filter (fun v => !pred v) := ⟨_, rfl⟩
        rw [← hF] at hg1 hg2
        have hclr := own_clear hg1 (i := i) (by omega)
        obtain ⟨hc1, hc2, hc3⟩ := hclr
        have htake : (ints (F ++ gs)).take (i * 1) = ints F := by
          unfold ints
          rw [Nat.mul_one, ← List.map_take, ← hg2, List.take_left]
        rw [htake] at hc1
        have hiI : (i : Int) ≤ (j : Int) := by omega
        have hiC : (i : Int) ≤ (c : Int) := by omega
        have hrun := run_clear_slice (P := Tryd.prog) wr 31 3 0 (.int .i64 0) rfl zeroInt rfl rfl g i (j - i) (c - i) (by omega) (fun k hk => own_some hg1 (by omega)) (fun k hk => own_frozen hg1 _)
        have HFIN := Lib.hid (show (Ending.returned (.slice (some ⟨g, 0, none⟩) i c) = .returned (.slice (some ⟨g, 0, none⟩) (l.filter fun v => !pred v).length c)) ∧ (wr.setCells g i (List.replicate (j - i) (.int .i64 0))).ownsRow base 3 1 (.slice (some ⟨g, 0, none⟩) (l.filter fun v => !pred v).length c) (l.filter fun v => !pred v).length (ints (l.filter fun v => !pred v)) ∧ Kp (fun b => decide ((Value.slice (some ⟨g, 0, none⟩) j c).ownBlock ≠ some b)) w (wr.setCells g i (List.replicate (j - i) (.int .i64 0))) from by
          rw [← hF, hg2]; exact ⟨rfl, hc1, HK.out.trans hc2⟩)
        have HRUN := Lib.hid hrun
        clear hc1 hc2 hc3 hg1 hg2 hg3 htake hdl htk hrun hF HG HK hnl
        go_upto_region 11 with (fail)
        have hrun := HRUN.out
        go_wp2_with (fail)
        exact bodyPost_ret (by simp [results, Tryd.results55, go_sem]) rfl HFIN.out
end Types
end Go.Proofs.YtjchplgapaeagaaDoor
namespace Go.Proofs.YtjchplgapaeagaaDoor
open Go.RowKit Go.Sort
set_option linter.unusedVariables false
set_option linter.unusedSimpArgs false
namespace Types

theorem clone_walk (base n c : Nat) (a : Option Addr) (l : List Int) (w : World) (h : w.ownsRow base 3 1 (.slice a n c) n (ints l)) (hn : n < 8000000000) :
    Calls Tryd.prog 56 #[.slice a n c] w fun en w' => ∃ a' c', en = .returned (.slice a' n c') ∧ w'.ownsRow w.heap.size 3 1 (.slice a' n c') n (ints l) ∧ Below w.heap.size w w' := by
  have hll : l.length = n := by have := h.1; unfold ints at this; rw [List.length_map] at this; omega
  by_cases h0 : n = 0
  · subst h0
    have hl : l = [] := List.eq_nil_of_length_eq_zero hll
    subst hl
    cases a with
    | none =>
      refine (Tryd.slices_Clone_int_nil 0 c w).mono ?_
      rintro en w' ⟨rfl, rfl⟩
      exact ⟨none, 0, rfl, World.ownsRow_nil _ _ _ _, Below.refl _ _⟩
    | some ad =>
      refine (Tryd.slices_Clone_int_zero ad c w).mono ?_
      rintro en w' ⟨v', rfl, h1, _, h3⟩
      obtain ⟨a', c', rfl, _, _⟩ := own_slice h1
      exact ⟨a', c', rfl, h1, h3⟩
  · obtain ⟨g, rfl, hg⟩ := own_at h (by omega)
    refine (Tryd.slices_Clone_int g 0 n c l w (by omega) (by omega) (fun j hj => ?_)).mono ?_
    · rw [Nat.zero_add]
      refine row_cell h ?_
      unfold ints
      rw [List.getElem?_map, List.getElem?_eq_getElem hj, List.getD_eq_getElem?_getD, List.getElem?_eq_getElem hj]; rfl
    · rintro en w' ⟨v', rfl, h1, _, h3⟩
      rw [List.take_of_length_le (by omega)] at h1
      obtain ⟨a', c', rfl, _, _⟩ := own_slice h1
      exact ⟨a', c', rfl, h1, h3⟩
theorem varsZ : varsT zTy = [] := by rw [varsT_eq, if_neg (show ¬ zTy.h.k = 5 by decide)]; exact varsK_nil
theorem ev_st {st : Nat → Option Ty} (hm : ∀ v t, st v = some t → mayT t = true) (v : Nat) : evK [tyO (st v)] = (varsT (tyO (st v))).map fun x => ((x : Nat) : Int) := by
  rw [evK_cons, evK_nil, List.append_nil]
  cases hs : st v with
  | some t => exact ev_vars t (hm v t hs)
  | none => rw [show tyO none = zTy from rfl, varsZ, evT_eq, if_neg (show ¬ zTy.h.k = 5 by decide)]; exact evK_nil
def okM (n : Nat) (nm : Nat → Nat) (s : List Nat × (Nat → Option Int)) (v : Int) : Prop := ∃ x : Nat, v = (x : Int) ∧ x < n ∧ s.1.length < 1000000000 ∧ (∀ i, s.2 i ≠ none → i < 1000000000) ∧ -4611686018427387904 ≤ (s.2 (nm x)).getD 0 + 1 ∧ (s.2 (nm x)).getD 0 + 1 ≤ 4611686018427387904
theorem MI.few {n : Nat} {nm : Nat → Nat} {R : Nat → Prop} {met : List Nat} {F : Nat → Option Int} {oc : Nat → Nat} (h : MI nm n R met F oc) (hn : n < 1000000000) : met.length < 1000000000 ∧ ∀ i, F i ≠ none → i < 1000000000 := by
  refine ⟨Nat.lt_of_le_of_lt (nodup_few h.nd fun x hx => (h.mem x hx).2.1) hn, fun i hi => ?_⟩
  rw [h.F i] at hi
  by_cases hm : i ∈ met
  · have := (h.mem i hm).2.1; omega
  · rw [if_neg hm] at hi; exact absurd rfl hi
theorem eok_meets {n : Nat} {nm : Nat → Nat} {R : Nat → Prop} (hid : ∀ v, nm (nm v) = nm v) (hle : ∀ v, nm v ≤ v) (hn : n < 1000000000) : ∀ (xs : List Nat) (met : List Nat) (F : Nat → Option Int) (oc : Nat → Nat), MI nm n R met F oc → (∀ x ∈ xs, x < n ∧ R (nm x)) → (∀ v, oc v + xs.length ≤ 4611686018427387900) →
    EOk (fun s v => meetS nm 1 s v.toNat) (okM n nm) (met, F) (xs.map fun x => ((x : Nat) : Int))
  | [], _, _, _, _, _, _ => trivial
  | x :: xs, met, F, oc, h, hx, hb => by
    have h1 := h.few hn
    have hxn := (hx x (by simp)).1
    have hxr := (hx x (by simp)).2
    obtain ⟨h2, _, _⟩ := h.meet hid (more := 1) (x := x) (Nat.lt_of_le_of_lt (hle x) hxn) hxr
    refine ⟨⟨x, rfl, hxn, h1.1, h1.2, ?_⟩, ?_⟩
    · have hF := h.F (nm x)
      have := hb (nm x)
      simp only [List.length_cons] at this
      show _ ≤ (F (nm x)).getD 0 + 1 ∧ (F (nm x)).getD 0 + 1 ≤ _
      rw [hF]
      split <;> simp <;> omega
    · exact eok_meets hid hle hn xs _ _ _ h2 (fun y hy => hx y (by simp [hy])) fun v => by
        have := hb v
        simp only [List.length_cons] at this
        show oc v + (if v = nm x then 1 else 0) + xs.length ≤ _
        split <;> omega
theorem fold_nat {α : Type} (f : α → Nat → α) (xs : List Nat) (s : α) : (xs.map fun x => ((x : Nat) : Int)).foldl (fun s v => f s v.toNat) s = xs.foldl f s := by rw [List.foldl_map]; rfl
def okL (n : Nat) (nm : Nat → Nat) (s : List Nat × (Nat → Option Int)) (v : Int) : Prop := ∃ (x : Nat) (pl : Int), v = (x : Int) ∧ x < n ∧ s.1.length < 1000000000 ∧ (∀ i, s.2 i ≠ none → i < 1000000000) ∧ s.2 (nm x) = some pl ∧ -4611686018427387904 ≤ pl - 1 ∧ pl - 1 ≤ 4611686018427387904
theorem eok_less {n : Nat} {nm : Nat → Nat} {st : Nat → Option Ty} {met : List Nat} (hn : n < 1000000000) (hm : ∀ v ∈ met, v < n) (hcl : ∀ p ∈ met, ∀ c ∈ namesN nm st p, c ∈ met) (hb : ∀ v, occN n nm st met v ≤ 4611686018427387900) {p i : Nat} :
    ∀ (post : List Nat) (pr : List Nat) (ord : List Nat) (F : Nat → Option Int), OI n nm st met ord F i pr → ord[i]? = some p → namesN nm st p = pr ++ post.map nm → (∀ x ∈ post, x < n) →
    EOk (fun s v => lessS nm s v.toNat) (okL n nm) (ord, F) (post.map fun x => ((x : Nat) : Int)) ∧ ∃ ord' F', post.foldl (lessS nm) (ord, F) = (ord', F') ∧ OI n nm st met ord' F' i (namesN nm st p) ∧ ord <+: ord'
  | [], pr, ord, F, h, hp, hnm, _ => ⟨trivial, ord, F, rfl, by rw [hnm]; simpa using h, List.prefix_refl _⟩
  | x :: post, pr, ord, F, h, hp, hnm, hx => by
    obtain ⟨pl, h1, h2, h3, h4, h5⟩ := h.less (R := fun _ => True) (F0 := F) hm hcl (x := x) (post := post.map nm) hp hnm
    have hord := nodup_few h.nd fun y hy => hm y (h.sub y hy)
    have hp' : (lessS nm (ord, F) x).1[i]? = some p := by
      obtain ⟨t, ht⟩ := h5
      rw [← ht, List.getElem?_append_left (List.getElem?_eq_some_iff.1 hp).1]; exact hp
    obtain ⟨k1, ord', F', k2, k3, k4⟩ := eok_less hn hm hcl hb post (pr ++ [nm x]) _ _ h4 hp' (by rw [hnm]; simp) (fun y hy => hx y (by simp [hy]))
    refine ⟨⟨⟨x, pl, rfl, hx x (by simp), by show ord.length < _; omega, fun j hj => ?_, h1, by omega, by have := hb (nm x); omega⟩, k1⟩, ord', F', k2, k3, h5.trans k4⟩
    have hj : F j ≠ none := hj
    rw [h.F j] at hj
    by_cases hjm : j ∈ met
    · have := hm j hjm; omega
    · rw [if_neg hjm] at hj; exact absurd rfl hj
end Types
end Go.Proofs.YtjchplgapaeagaaDoor
namespace Go.Proofs.YtjchplgapaeagaaDoor
open Go.RowKit
set_option linter.unusedVariables false
set_option linter.unusedSimpArgs false
namespace Types

def qCan (Nm M s : Nat) (W : World) (b : Nat) : Bool := Q4 M s b && decide (b ≠ Nm ∧ rowOf W Nm ≠ some b)
theorem qCan_iff {Nm M s b : Nat} {W : World} : qCan Nm M s W b = true ↔ (b ≠ M ∧ b ≠ s) ∧ b ≠ Nm ∧ rowOf W Nm ≠ some b := by
  unfold qCan Q4
  rw [Bool.and_eq_true_iff]
  exact ⟨fun h => ⟨of_decide_eq_true h.1, of_decide_eq_true h.2⟩, fun h => ⟨decide_eq_true h.1, decide_eq_true h.2⟩⟩
theorem qCan_ok {Nm M s : Nat} {W : World} (h1 : Nm < W.heap.size) (h2 : M < W.heap.size) (h3 : s < W.heap.size) (hl : ∀ g, rowOf W Nm = some g → g < W.heap.size) : QOk Nm (Q4 M s) (qCan Nm M s W) W :=
  ⟨fun b hb => qCan_iff.2 ⟨⟨by omega, by omega⟩, by omega, fun e => by have := hl b e; omega⟩, fun b hb => ⟨decide_eq_true (qCan_iff.1 hb).1, (qCan_iff.1 hb).2⟩, hl, h1⟩
section
variable {P : Nat → Bool} {k : Bk} {u : Up} {n : Nat} {g : Nat → Bool} {nm : Nat → Nat} {st : Nat → Option Ty} {B Z Np Nm M N1 N2 : Nat} {s : List Nat × (Nat → Option Int)} {W W' : World}
theorem W2V.below (h : W2V P k u n g nm st B Np Nm M N1 N2 s W) (hb : Below W.heap.size W W') : W2V P k u n g nm st B Np Nm M N1 N2 s W' := by
  obtain ⟨e, h2, h3⟩ := h.book
  obtain ⟨a, c, q1, q2⟩ := h.meet.xm
  have hap := h.meet.ap
  have hz := hb.size
  exact ⟨⟨(hb.block _ (lt_of_block h.meet.xp)).trans h.meet.xp, ⟨a, c, (hb.block _ (lt_of_block q1)).trans q1, own_all q2 hb⟩, h.meet.map.of_block (hb.block _ h.meet.map.lt), ⟨hap.1, hap.2.1, hap.2.2.1, hap.2.2.2.1, hap.2.2.2.2.1, hap.2.2.2.2.2.1, by omega⟩⟩, (hb.block _ (lt_of_block h.f)).trans h.f, (hb.block _ (lt_of_block h.b)).trans h.b, ⟨e, h2.below hb, h3⟩⟩
theorem W4V.below (h : W4V P k u n g nm st Np Nm M N2 s W) (hb : Below W.heap.size W W') : W4V P k u n g nm st Np Nm M N2 s W' := by
  obtain ⟨e, h2, h3⟩ := h.book
  obtain ⟨a, c, q1, q2, q3⟩ := h.xm
  exact ⟨(hb.block _ (lt_of_block h.xp)).trans h.xp, ⟨a, c, (hb.block _ (lt_of_block q1)).trans q1, own_all q2 hb, q3⟩, h.map.of_block (hb.block _ h.map.lt), (hb.block _ (lt_of_block h.b)).trans h.b, ⟨e, h2.below hb, h3⟩⟩
theorem W2V.rowlt (h : W2V P k u n g nm st B Np Nm M N1 N2 s W) : ∀ g', rowOf W Nm = some g' → g' < W.heap.size ∧ B ≤ g' := fun g' e => by
  obtain ⟨a, c, q1, q2⟩ := h.meet.xm
  rw [rowOf_eq q1] at e
  exact own_row_lt q2 e
theorem W4V.rowlt (h : W4V P k u n g nm st Np Nm M N2 s W) : ∀ g', rowOf W Nm = some g' → g' < W.heap.size ∧ Ap4 P k u Np Nm M N2 g' := fun g' e => by
  obtain ⟨a, c, q1, q2, q3⟩ := h.xm
  rw [rowOf_eq q1] at e
  exact ⟨(own_row_lt q2 e).1, q3 g' e⟩
theorem rowOf_below (hb : Below W.heap.size W W') (h : Nm < W.heap.size) : rowOf W' Nm = rowOf W Nm := rowOf_same (hb.block _ h)
/-- Of what is met. -/
theorem w2_each (hV : W2V P k u n g nm st B Np Nm M N1 N2 s W) (hA : W2A P k u B Np Nm M N1 N2) {h : Hd} {q : Option Addr} {l c : Nat} {t : Ty} (hT : TyIs (veil P W) h q l c t) (hok : EOk (fun s v => meetS nm 1 s v.toNat) (okM n nm) s (evK [t])) :
    Calls Tryd.prog 47 #[.func (.func 73) #[] #[.pointer (some ⟨N1, 0, none⟩), .pointer (some ⟨N2, 0, none⟩)], .slice (some ⟨W.heap.size, 0, none⟩) 1 1] (W.alloc (.cells #[.int .u8 h.k, .int .i64 h.v, .slice q l c] 25))
      fun en w' => en = .returned (.tuple #[]) ∧ W2V P k u n g nm st B Np Nm M N1 N2 ((evK [t]).foldl (fun s v => meetS nm 1 s v.toNat) s) w' ∧ Kp (qCan Nm M k.s W) W w' := by
  obtain ⟨e, hT2, hR2⟩ := hV.book
  have hap := hV.meet.ap
  have hks := hT2.me.st.lt
  have hq0 : QOk Nm (Q4 M k.s) (qCan Nm M k.s W) W := qCan_ok (by omega) hV.meet.map.lt hks fun g' e => (hV.rowlt g' e).1
  have hPq : ∀ b, P b = true → qCan Nm M k.s W b = true := fun b hb => by
    obtain ⟨h1, h2, h3⟩ := hA.P b hb
    exact qCan_iff.2 ⟨⟨h3, fun e => by subst e; rw [hT2.me.ps] at hb; cases hb⟩, h2, fun e => by have := (hV.rowlt b e).2; omega⟩
  have hk := kids_one_veil (Q := qCan Nm M k.s W) (hT.reads' (veil_to fun b hb hp => ⟨hPq b hp, rfl⟩)) 25 W.heap.size rfl (hq0.new _ (Nat.le_refl _))
  refine (eachW2 (.pointer (some ⟨N1, 0, none⟩)) (.pointer (some ⟨N2, 0, none⟩)) (fun s Q W => W2V P k u n g nm st B Np Nm M N1 N2 s W ∧ QOk Nm (Q4 M k.s) Q W) (fun s v => meetS nm 1 s v.toNat) (okM n nm)
    (fun s v Q W' hI hok => ?_) (fun s Q W' O hI => ⟨hI.1.alloc O, hI.2.alloc O⟩) (fun s Q W' hI => hI.2.new) _ [t] _ 1 1 s (qCan Nm M k.s W) _ (Nat.le_refl _) rfl (by unfold maxLen; omega) hk ⟨hV.alloc _, hq0.alloc _⟩ hok).mono ?_
  · obtain ⟨x, rfl, hx, h1, h2, h3⟩ := hok
    refine (within2_walk P k u n g nm st B Np Nm M N1 N2 s x W' hI.1 hA hx h1 h2 h3).mono ?_
    rintro en w2 ⟨rfl, hv, _, hkr⟩
    obtain ⟨Q', q1, q2⟩ := hI.2.step hkr fun g' e => (hv.rowlt g' e).1
    exact ⟨rfl, Q', ⟨hv, q1⟩, q2⟩
  · rintro en w' ⟨rfl, Q', hI, hs⟩
    exact ⟨rfl, hI.1, ((QSt.alloc (Q := qCan Nm M k.s W) _).trans hs).1⟩
/-- Of what is ordered. -/
theorem w4_each (hV : W4V P k u n g nm st Np Nm M N2 s W) (hA : W4A P k u Z Np Nm M N2) (hZ : Z ≤ W.heap.size) {h : Hd} {q : Option Addr} {l c : Nat} {t : Ty} (hT : TyIs (veil P W) h q l c t) (hok : EOk (fun s v => lessS nm s v.toNat) (okL n nm) s (evK [t])) :
    Calls Tryd.prog 47 #[.func (.func 75) #[] #[.pointer (some ⟨N2, 0, none⟩), .pointer (some ⟨Np, 0, none⟩), .pointer (some ⟨Nm, 0, none⟩)], .slice (some ⟨W.heap.size, 0, none⟩) 1 1] (W.alloc (.cells #[.int .u8 h.k, .int .i64 h.v, .slice q l c] 25))
      fun en w' => en = .returned (.tuple #[]) ∧ W4V P k u n g nm st Np Nm M N2 ((evK [t]).foldl (fun s v => lessS nm s v.toNat) s) w' ∧ Kp (qCan Nm M k.s W) W w' ∧ ∀ b, b < W.heap.size → qCan Nm M k.s W b = true → rowOf w' Nm ≠ some b := by
  obtain ⟨e, hT2, hR2⟩ := hV.book
  have hks := hT2.me.st.lt
  have hnm : Nm < W.heap.size := by obtain ⟨a, c, q1, _⟩ := hV.xm; exact lt_of_block q1
  have hq0 : QOk Nm (Q4 M k.s) (qCan Nm M k.s W) W := qCan_ok hnm hV.map.lt hks fun g' e => (hV.rowlt g' e).1
  have hPq : ∀ b, P b = true → qCan Nm M k.s W b = true := fun b hb => by
    obtain ⟨h2, h3⟩ := hA.P b hb
    exact qCan_iff.2 ⟨⟨h3, fun e => by subst e; rw [hT2.me.ps] at hb; cases hb⟩, h2, fun e => by have := (hV.rowlt b e).2.2.2.2.2.2.2.2.1; rw [this] at hb; cases hb⟩
  have hk := kids_one_veil (Q := qCan Nm M k.s W) (hT.reads' (veil_to fun b hb hp => ⟨hPq b hp, rfl⟩)) 25 W.heap.size rfl (hq0.new _ (Nat.le_refl _))
  refine (eachW4 (.pointer (some ⟨N2, 0, none⟩)) (.pointer (some ⟨Np, 0, none⟩)) (.pointer (some ⟨Nm, 0, none⟩)) (fun s Q W' => (W4V P k u n g nm st Np Nm M N2 s W' ∧ Z ≤ W'.heap.size) ∧ QOk Nm (Q4 M k.s) Q W') (fun s v => lessS nm s v.toNat) (okL n nm)
    (fun s v Q W' hI hok => ?_) (fun s Q W' O hI => ⟨⟨hI.1.1.alloc O, Nat.le_trans hI.1.2 (al_new O).size⟩, hI.2.alloc O⟩) (fun s Q W' hI => hI.2.new) _ [t] _ 1 1 s (qCan Nm M k.s W) _ (Nat.le_refl _) rfl (by unfold maxLen; omega) hk ⟨⟨hV.alloc _, Nat.le_trans hZ (al_new _).size⟩, hq0.alloc _⟩ hok).mono ?_
  · obtain ⟨x, pl, rfl, hx, h1, h2, h3, h4⟩ := hok
    refine (within4_walk P k u n g nm st Z Np Nm M N2 s.1 s.2 x pl W' hI.1.1 hA hI.1.2 hx h1 h2 h3 h4).mono ?_
    rintro en w2 ⟨rfl, hv, hkr⟩
    obtain ⟨Q', q1, q2⟩ := hI.2.step hkr fun g' e => (hv.rowlt g' e).1
    exact ⟨rfl, Q', ⟨⟨hv, Nat.le_trans hI.1.2 hkr.kp.size⟩, q1⟩, q2⟩
  · rintro en w' ⟨rfl, Q', hI, hs⟩
    have hst := (QSt.alloc (Q := qCan Nm M k.s W) (W := W) _).trans hs
    exact ⟨rfl, hI.1.1, hst.1, fun b hb hp => (hI.2.ok b (hst.2 b hb hp)).2.2⟩
end
end Types
end Go.Proofs.YtjchplgapaeagaaDoor
namespace Go.Proofs.YtjchplgapaeagaaDoor
open Go.RowKit
set_option linter.unusedVariables false
namespace Types

theorem RowV.rowlt {B Nm : Nat} {l : List Int} {W : World} (h : RowV B Nm l W) : ∀ g, rowOf W Nm = some g → g < W.heap.size ∧ B ≤ g := fun g e => by
  obtain ⟨a, c, h1, h2⟩ := h.row
  rw [rowOf_eq h1] at e
  exact own_row_lt h2 e
theorem eok_push : ∀ (vs l : List Int), l.length + vs.length < 1000000000 → EOk (fun l v => l ++ [v]) (fun l _ => l.length < 1000000000) l vs
  | [], _, _ => trivial
  | v :: vs, l, h => ⟨by rw [List.length_cons] at h; show l.length < 1000000000; omega, eok_push vs (l ++ [v]) (by rw [List.length_cons] at h; rw [List.length_append]; show l.length + 1 + vs.length < 1000000000; omega)⟩
theorem fold_push : ∀ (vs l : List Int), vs.foldl (fun l v => l ++ [v]) l = l ++ vs
  | [], l => by simp
  | v :: vs, l => by rw [List.foldl_cons, fold_push vs]; simp
theorem fits_each {B Nm : Nat} {l : List Int} {W : World} {P : Nat → Bool} (hI : RowV B Nm l W) {h : Hd} {q : Option Addr} {k c : Nat} {t : Ty} (hT : TyIs (veil P W) h q k c t) (hP : ∀ b, P b = true → b ≠ Nm ∧ rowOf W Nm ≠ some b) (hl : l.length + (evK [t]).length < 1000000000) :
    Calls Tryd.prog 47 #[.func (.func 62) #[] #[.pointer (some ⟨Nm, 0, none⟩)], .slice (some ⟨W.heap.size, 0, none⟩) 1 1] (W.alloc (.cells #[.int .u8 h.k, .int .i64 h.v, .slice q k c] 25))
      fun en w' => en = .returned (.tuple #[]) ∧ RowV B Nm (l ++ evK [t]) w' ∧ Kp (fun b => decide (b ≠ Nm ∧ rowOf W Nm ≠ some b)) W w' := by
  have hap := hI.ap
  obtain ⟨Q, hQ⟩ : ∃ Q : Nat → Bool, Q = fun b => decide (b ≠ Nm ∧ rowOf W Nm ≠ some b) := ⟨_, rfl⟩
  have hq0 : QOk Nm (fun _ => true) Q W := ⟨fun b hb => by rw [hQ]; exact decide_eq_true ⟨by omega, fun e => by have := (hI.rowlt b e).1; omega⟩, fun b hb => by rw [hQ] at hb; exact ⟨rfl, of_decide_eq_true hb⟩, fun g e => (hI.rowlt g e).1, by omega⟩
  have hk := kids_one_veil (Q := Q) (hT.reads' (veil_to fun b hb hp => ⟨by rw [hQ]; exact decide_eq_true (hP b hp), rfl⟩)) 25 W.heap.size rfl (hq0.new _ (Nat.le_refl _))
  refine (eachF (.pointer (some ⟨Nm, 0, none⟩)) (fun l Q W => RowV B Nm l W ∧ QOk Nm (fun _ => true) Q W) (fun l v => l ++ [v]) (fun l _ => l.length < 1000000000)
    (fun s v Q' W' hI hok => ?_) (fun s Q' W' O hI => ⟨hI.1.alloc O, hI.2.alloc O⟩) (fun s Q' W' hI => hI.2.new) _ [t] _ 1 1 l Q _ (Nat.le_refl _) rfl (by unfold maxLen; omega) hk ⟨hI.alloc _, hq0.alloc _⟩ (eok_push _ _ hl)).mono ?_
  · refine (fits1_walk B Nm s v W' hI.1 hok).mono ?_
    rintro en w2 ⟨rfl, hv, _, hkr⟩
    obtain ⟨Q', q1, q2⟩ := hI.2.step hkr fun g' e => (hv.rowlt g' e).1
    exact ⟨rfl, Q', ⟨hv, q1⟩, q2⟩
  · rintro en w' ⟨rfl, Q', hI, hs⟩
    rw [fold_push] at hI
    refine ⟨rfl, hI.1, ?_⟩
    rw [← hQ]
    exact ((QSt.alloc (Q := Q) _).trans hs).1
end Types
end Go.Proofs.YtjchplgapaeagaaDoor
