/- The document's put and Of. -/
import Derived.Test.YtggabjmfdnfckaaGreatDoorEfLess
namespace Go.Proofs.YtggabjmfdnfckaaGreatDoor
open Go.RowKit
set_option linter.unusedVariables false
set_option linter.unusedSimpArgs false
namespace Effect

theorem row_new {B : Nat} {w : World} (hB : B ≤ w.heap.size) : Row B (w.alloc (.cells #[] 47)) (.slice (some ⟨w.heap.size, 0, none⟩) 0 0) [] :=
  ⟨rfl, .inr ⟨w.heap.size, 0, #[], rfl, hB, heap_alloc_new w _, Nat.le_refl _, by unfold maxLen; omega, rfl, rfl⟩⟩
theorem cells_stay {W V : World} {b o : Nat} {x : At} (h : W.cell? ⟨b, o, none⟩ = some (.int .u8 x.k) ∧ W.cell? ⟨b, o + 1, none⟩ = some (.int .i64 x.r) ∧ W.cell? ⟨b, o + 2, none⟩ = some (.string x.x)) (hb : V.heap[b]? = W.heap[b]?) : V.cell? ⟨b, o, none⟩ = some (.int .u8 x.k) ∧ V.cell? ⟨b, o + 1, none⟩ = some (.int .i64 x.r) ∧ V.cell? ⟨b, o + 2, none⟩ = some (.string x.x) :=
  ⟨(World.cell?_of_block hb).trans h.1, (World.cell?_of_block hb).trans h.2.1, (World.cell?_of_block hb).trans h.2.2⟩
theorem cells_below {B : Nat} {W V : World} {b o : Nat} {x : At} (h : W.cell? ⟨b, o, none⟩ = some (.int .u8 x.k) ∧ W.cell? ⟨b, o + 1, none⟩ = some (.int .i64 x.r) ∧ W.cell? ⟨b, o + 2, none⟩ = some (.string x.x)) (hb : b < B) (hV : Below B W V) : V.cell? ⟨b, o, none⟩ = some (.int .u8 x.k) ∧ V.cell? ⟨b, o + 1, none⟩ = some (.int .i64 x.r) ∧ V.cell? ⟨b, o + 2, none⟩ = some (.string x.x) := cells_stay h (hV.block b hb)
theorem w2cells {W : World} {b o : Nat} {l : List At} (h : AtsAt W (some ⟨b, o, none⟩) l) (j : Nat) (hj : j < l.length) : W.cell? ⟨b, o + j * 3, none⟩ = some (.int .u8 (aget l j).k) ∧ W.cell? ⟨b, o + j * 3 + 1, none⟩ = some (.int .i64 (aget l j).r) ∧ W.cell? ⟨b, o + j * 3 + 2, none⟩ = some (.string (aget l j).x) := by
  obtain ⟨b', o', hp, h1⟩ := h.get j hj
  injection hp with hp; injection hp with e1 e2; subst e1 e2
  exact h1
/-- One more, appended. -/
theorem Row.push {B m c1 : Nat} {W w' : World} {a1 : Option Addr} {v' : Value} {l : List At} {x : At} (hm : m = l.length) (h : w'.ownsRow B 47 3 v' (m + 1) (flat l ++ enc x)) : Row B w' v' (l ++ [x]) := by
  subst hm
  unfold Row
  rw [flat_append, flat_single, List.length_append]
  exact h
set_option maxRecDepth 100000 in
set_option maxHeartbeats 12800000 in
theorem put_walk {B n c : Nat} {a : Option Addr} {l : List At} {x : At} {w : World} (h : Row B w (.slice a n c) l) (hB : B ≤ w.heap.size) (hok : ∀ y ∈ l, y.x.size ≤ maxLen) (hx : x.x.size ≤ maxLen) (hn : n ≤ 10000) : Calls Tryz.prog 26 #[.slice a n c, .agg #[.int .u8 x.k, .int .i64 x.r, .string x.x]] w fun e w' => ∃ v, e = .returned v ∧ Row B w' v (putA l x) ∧ Below w.heap.size w w' := by
  have hrd := Rd.of_row h hok
  obtain ⟨i0, hi, hz0, hz2, hz3⟩ := info_parts
  have HI := Lib.hid hi; have HZ0 := Lib.hid hz0; have HZ2 := Lib.hid hz2; have HZ3 := Lib.hid hz3
  have H := Lib.hid h; have HR := Lib.hid hrd; have HB := Lib.hid hB; have HX := Lib.hid hx
  have HN := Lib.hid fun O => heap_alloc_new w O
  have HAT := Lib.hid fun W => refAtom_walk x W hx
  clear h hB hok hx hrd hi hz0 hz2 hz3
  go_enter Tryz.func26, Tryz.ntmps26
  go_wp2_with (fail)
  refine (HAT.out _).mono ?_
  rintro e w1 ⟨rfl, hb1⟩
  have hbox := (hb1.block w.heap.size (by simp)).trans (HN.out _)
  have HB1 := Lib.hid (below_row (Below.refl _ _) hb1 (Nat.le_refl _))
  have HBOX := Lib.hid hbox
  clear hb1
  obtain ⟨⟨x0, x1, x2⟩, -, -⟩ := c3 hbox
  clear hbox
  cases hat : atomB x
  · have HA := Lib.hid hat
    clear hat
    go_wp2_with (fail)
    go_ret
    exact ⟨_, rfl, by rw [putA_no (.inl HA.out)]; exact H.out.below HB1.out, HB1.out⟩
  · have HA := Lib.hid hat
    have HIN := Lib.hid (in_walk (c := c) (HR.out.below HB1.out) x (by omega))
    clear hat
    go_wp2_with (fail)
    refine HIN.out.mono ?_
    rintro e w2 ⟨rfl, hb2⟩
    have HB2 := Lib.hid (below_then HB1.out hb2 HB1.out.size)
    have HBOX2 := Lib.hid ((hb2.block _ (lt_of_block HBOX.out)).trans HBOX.out)
    clear hb2 x0 x1 x2
    by_cases hin : x ∈ l
    · have HIN2 := Lib.hid hin
      rw [decide_eq_true hin]
      clear hin
      go_wp2_with (fail)
      go_ret
      exact ⟨_, rfl, by rw [putA_no (.inr HIN2.out)]; exact H.out.below HB2.out, HB2.out⟩
    · have HIN2 := Lib.hid hin
      rw [decide_eq_false hin]
      clear hin
      go_wp2_with (fail)
      have HS0 := Lib.hid HB2.out.size
      go_loopw [5, 6, 7, 20] (fun own dn _ i wr => ∃ (j m c1 : Nat) (a1 : Option Addr) (d : Bool) (o : List At), j ≤ n ∧ m ≤ j + 1 ∧ i = .int .i64 (j : Int) ∧ dn = .bool d ∧ own = .slice a1 m c1 ∧ Hid (m = o.length) ∧ Hid (InsAt x d (l.take j) o) ∧ Hid (Row w2.heap.size wr (.slice a1 m c1) o) ∧ Hid (Below w2.heap.size w2 wr)) (fun _ _ _ i _ => n - (intOf i).toNat)
      case atStart => exact ⟨0, 0, 0, some ⟨w2.heap.size, 0, none⟩, false, [], Nat.zero_le _, Nat.zero_le _, rfl, rfl, rfl, Lib.hid rfl, Lib.hid (.inl ⟨rfl, by simp, by simp⟩), Lib.hid (row_new (Nat.le_refl _)), Lib.hid (al_new _)⟩
      case round =>
        obtain ⟨j, m, c1, a1, d, o, hj, hmj, rfl, rfl, rfl, HM, HIA, HRW, HS⟩ := hrel
        have HBX := Lib.hid ((HS.out.block _ (lt_of_block HBOX2.out)).trans HBOX2.out)
        by_cases hlt : j < n
        · have hjl : j < l.length := by rw [HR.out.len]; exact hlt
          obtain ⟨b, p, rfl, e0, e1, e2⟩ := ((HR.out.below HB2.out).below HS.out).at_.get j hjl
          have htk := at_take l j hjl
          have hblk : b < w2.heap.size := by
            obtain ⟨b', p', hbp, q0, -, -⟩ := (HR.out.below HB2.out).at_.get j hjl
            injection hbp with hbp; injection hbp with hbp; subst hbp
            exact World.block_lt_of_cell? w2 _ q0
          have hew2 := w2cells (HR.out.below HB2.out).at_ j hjl
          generalize aget l j = z at *
          have HTK := Lib.hid htk; have HE := Lib.hid (And.intro e0 (And.intro e1 e2)); have HBL := Lib.hid hblk
          have HEW2 := Lib.hid hew2
          clear htk hjl hblk hew2
          cases d
          · have HRD := Lib.hid (HRW.out)
            go_upto_region 8 with (fail)
            refine wp_region_held_drew (S := fun (V : World) => V.heap[w.heap.size]? = wr.heap[w.heap.size]? ∧ V.heap[b]? = wr.heap[b]?) (by kernel_rfl) ⟨rfl, rfl⟩ (fun hHeld => ?_)
            clear e0 e1 e2
            refine wpAnyH_take (i := 0) (v := .bool false) rfl (by kernel_rfl) (by kernel_rfl) (by kernel_rfl) (fun _ _ _ h => h) (Or.inl ⟨by rfl, ?_⟩) (by assumption) ?_
            · intro w' hSw
              first | (go_simp; done) | (go_simp; intro h0; omega) | rfl
            try simp only [Act.put, List.getElem_toArray, List.getElem_cons_succ, List.getElem_cons_zero, List.setIfInBounds_toArray, List.set_cons_zero, List.set_cons_succ]
            refine wpAnyH_take (i := 1) (v := .bool true) rfl (by kernel_rfl) (by kernel_rfl) (by kernel_rfl) (fun _ _ _ h => h) (Or.inl ⟨by rfl, ?_⟩) (by assumption) ?_
            · intro w' hSw
              first | (go_simp; done) | (go_simp; intro h0; omega) | rfl
            try simp only [Act.put, List.getElem_toArray, List.getElem_cons_succ, List.getElem_cons_zero, List.setIfInBounds_toArray, List.set_cons_zero, List.set_cons_succ]
            refine wpAnyH_take (i := 2) (v := .bool true) rfl (by kernel_rfl) (by kernel_rfl) (by kernel_rfl) (fun _ _ _ h => h) (Or.inl ⟨by rfl, ?_⟩) (by assumption) ?_
            · intro w' hSw
              first | (go_simp; done) | (go_simp; intro h0; omega) | rfl
            try simp only [Act.put, List.getElem_toArray, List.getElem_cons_succ, List.getElem_cons_zero, List.setIfInBounds_toArray, List.set_cons_zero, List.set_cons_succ]
            refine wpAnyH_take (i := 3) (v := .agg #[.int .u8 x.k, .int .i64 x.r, .string x.x]) rfl (by kernel_rfl) (by kernel_rfl) (by kernel_rfl) (fun _ _ _ h => h) (Or.inl ⟨by rfl, ?_⟩) (by assumption) ?_
            · intro w' hSw
              obtain ⟨⟨x0, x1, x2⟩, -, -⟩ := c3 (hSw.1.trans HBX.out)
              clear hSw
              first | (go_simp; done) | (go_simp; intro h0; omega) | rfl
            try simp only [Act.put, List.getElem_toArray, List.getElem_cons_succ, List.getElem_cons_zero, List.setIfInBounds_toArray, List.set_cons_zero, List.set_cons_succ]
            refine wpAnyH_take (i := 4) (v := .slice (some ⟨b, p, none⟩) n c) rfl (by kernel_rfl) (by kernel_rfl) (by kernel_rfl) (fun _ _ _ h => h) (Or.inl ⟨by rfl, ?_⟩) (by assumption) ?_
            · intro w' hSw
              first | (go_simp; done) | (go_simp; intro h0; omega) | rfl
            try simp only [Act.put, List.getElem_toArray, List.getElem_cons_succ, List.getElem_cons_zero, List.setIfInBounds_toArray, List.set_cons_zero, List.set_cons_succ]
            refine wpAnyH_take (i := 5) (v := .int .i64 (j : Int)) rfl (by kernel_rfl) (by kernel_rfl) (by kernel_rfl) (fun _ _ _ h => h) (Or.inl ⟨by rfl, ?_⟩) (by assumption) ?_
            · intro w' hSw
              first | (go_simp; done) | (go_simp; intro h0; omega) | rfl
            try simp only [Act.put, List.getElem_toArray, List.getElem_cons_succ, List.getElem_cons_zero, List.setIfInBounds_toArray, List.set_cons_zero, List.set_cons_succ]
            refine wpAnyH_take (i := 6) (v := .pointer (some ⟨b, p + j * 3, none⟩)) rfl (by kernel_rfl) (by kernel_rfl) (by kernel_rfl) (fun _ _ _ h => h) (Or.inl ⟨by rfl, ?_⟩) (by assumption) ?_
            · intro w' hSw
              first | (go_simp; done) | (go_simp; intro h0; omega) | rfl
            try simp only [Act.put, List.getElem_toArray, List.getElem_cons_succ, List.getElem_cons_zero, List.setIfInBounds_toArray, List.set_cons_zero, List.set_cons_succ]
            refine wpAnyH_take (i := 7) (v := .agg #[.int .u8 z.k, .int .i64 z.r, .string z.x]) rfl (by kernel_rfl) (by kernel_rfl) (by kernel_rfl) (fun _ _ _ h => h) (Or.inl ⟨by rfl, ?_⟩) (by assumption) ?_
            · intro w' hSw
              obtain ⟨e0, e1, e2⟩ := cells_stay HE.out hSw.2
              clear hSw
              first | (go_simp; done) | (go_simp; intro h0; omega) | rfl
            try simp only [Act.put, List.getElem_toArray, List.getElem_cons_succ, List.getElem_cons_zero, List.setIfInBounds_toArray, List.set_cons_zero, List.set_cons_succ]
            refine wpAnyH_ready (rs := [8]) (by kernel_rfl) (by simp) ?_
            refine AllReadyH.cons rfl (fun K hK => ?_) AllReadyH.nil
            have HK2 := Lib.hid hK
            clear hK
            try rw [if_pos (by rfl)]
            have HLS := Lib.hid fun W => less_walk x z W
            go_simp
            refine (HLS.out _).mono ?_
            rintro e w4 ⟨rfl, hb4⟩
            have hb4' : Below wr.heap.size wr w4 := ⟨hb4.os, hb4.tape, hb4.output, hb4.size, hb4.block⟩
            have HRW4 := Lib.hid (HRW.out.below hb4'); have HS4 := Lib.hid (below_then HS.out hb4' HS.out.size)
            have HBX4 := Lib.hid ((hb4'.block _ (lt_of_block HBX.out)).trans HBX.out)
            have HE4 := Lib.hid (cells_stay HE.out (hb4'.block b (Nat.lt_of_lt_of_le HBL.out HS.out.size)))
            refine HK2.out _ _ ⟨hb4'.block _ (lt_of_block HBX.out), hb4'.block b (Nat.lt_of_lt_of_le HBL.out HS.out.size)⟩ (fun hHeld => ?_)
            clear hb4 hb4' HK2
            try simp only [Act.put, List.getElem_toArray, List.getElem_cons_succ, List.getElem_cons_zero, List.setIfInBounds_toArray, List.set_cons_zero, List.set_cons_succ]
            clear K
            refine wpAnyH_take (i := 9) (v := .bool (lessA x z)) rfl (by kernel_rfl) (by kernel_rfl) (by kernel_rfl) (fun _ _ _ h => h) (Or.inl ⟨by rfl, ?_⟩) (by assumption) ?_
            · intro w' hSw
              first | (go_simp; done) | (go_simp; intro h0; omega) | rfl
            try simp only [Act.put, List.getElem_toArray, List.getElem_cons_succ, List.getElem_cons_zero, List.setIfInBounds_toArray, List.set_cons_zero, List.set_cons_succ]
            refine wpAnyH_done (by kernel_rfl) ?_ _
            clear hHeld
            obtain ⟨⟨x0, x1, x2⟩, -, -⟩ := c3 HBX4.out
            obtain ⟨e0, e1, e2⟩ := HE4.out
            have HE2 := Lib.hid HEW2.out
            cases hls : lessA x z
            · have HLZ := Lib.hid hls
              clear hls
              go_wp2_with (at_builtin; refine wpList_append_own_at _ rfl (.tmp 37) (.tmp 42) 25 rfl w2.heap.size 47 i0 _ 3 32 Tryz.underlying25 HI.out HZ0.out HZ2.out HZ3.out rfl (by omega) (.slice a1 m c1) m (flat o) rfl (HRW4.out.own HM.out (al_new _)) _ 1 1 (enc z) rfl rfl (new_atom rfl) (enc_one z) (by unfold maxLen; omega) (by omega) (by have := HS4.out.size; simp; omega) ?_; intro v' w5 hown hgr hnil hat; obtain ⟨a3, c3', rfl, -, -⟩ := own_slice hown; have HR3 := Lib.hid (Row.push (W := w) (c1 := 0) (a1 := none) HM.out hown); have HS3 := Lib.hid ((below_then HS4.out (al_new _) HS4.out.size).grown hgr (by have := HS4.out.size; simp; omega) fun g hg => (HRW4.out.lt g hg).1); clear hown hgr hnil hat)
              go_roundw
              case rel => exact ⟨j + 1, m + 1, c3', a3, false, o ++ [z], by omega, by omega, by go_num, rfl, rfl, Lib.hid (by rw [List.length_append, ← HM.out]; rfl), Lib.hid (by rw [HTK.out]; exact HIA.out.step_no HLZ.out), HR3, HS3⟩
              case measure => simp [intOf]; omega
            · have HLZ := Lib.hid hls
              clear hls
              go_wp2_with (first | (at_builtin; refine wpList_append_own_at _ rfl (.tmp 33) (.tmp 35) 25 rfl w2.heap.size 47 i0 _ 3 32 Tryz.underlying25 HI.out HZ0.out HZ2.out HZ3.out rfl (by omega) (.slice a1 m c1) m (flat o) rfl (HRW4.out.own HM.out (al_new _)) _ 1 1 (enc x) rfl rfl (new_atom rfl) (enc_one x) (by unfold maxLen; omega) (by omega) (by have := HS4.out.size; simp; omega) ?_; intro v' w5 hown hgr hnil hat; obtain ⟨a3, c3', rfl, -, -⟩ := own_slice hown; have HR3 := Lib.hid (Row.push (W := w) (c1 := 0) (a1 := none) HM.out hown); have HS3 := Lib.hid ((below_then HS4.out (al_new _) HS4.out.size).grown hgr (by have := HS4.out.size; simp; omega) fun g hg => (HRW4.out.lt g hg).1); clear hown hgr hnil hat; obtain ⟨y0, y1, y2⟩ := cells_below HE2.out HBL.out HS3.out) | (at_builtin; refine wpList_append_own_at _ rfl (.tmp 37) (.tmp 42) 25 rfl w2.heap.size 47 i0 _ 3 32 Tryz.underlying25 HI.out HZ0.out HZ2.out HZ3.out rfl (by omega) (.slice a3 (m + 1) c3') (m + 1) (flat (o ++ [x])) rfl (HR3.out.own (by rw [List.length_append, ← HM.out]; rfl) (al_new _)) _ 1 1 (enc z) rfl rfl (new_atom rfl) (enc_one z) (by unfold maxLen; omega) (by omega) (by have := HS3.out.size; simp; omega) ?_; intro v' w6 hown hgr hnil hat; obtain ⟨a4, c4', rfl, -, -⟩ := own_slice hown; have HR4 := Lib.hid (Row.push (W := w) (c1 := 0) (a1 := none) (by rw [List.length_append, ← HM.out]; rfl) hown); have HS5 := Lib.hid ((below_then HS3.out (al_new _) HS3.out.size).grown hgr (by have := HS3.out.size; simp; omega) fun g hg => (HR3.out.lt g hg).1); clear hown hgr hnil hat))
              go_roundw
              case rel => exact ⟨j + 1, m + 1 + 1, c4', a4, true, o ++ [x] ++ [z], by omega, by have := HIA.out.len_no; have := HM.out; have e := List.length_take (i := j) (l := l); omega, by go_num, rfl, rfl, Lib.hid (by rw [List.length_append, List.length_append, ← HM.out]; rfl), Lib.hid (by rw [HTK.out]; exact HIA.out.step_at HLZ.out), HR4, HS5⟩
              case measure => simp [intOf]; omega
          · obtain ⟨⟨x0, x1, x2⟩, -, -⟩ := c3 HBX.out
            have mixed : Tryz.prog.follows .mixedOrders = true := by kernel_rfl
            go_wp2_with (fail)
            go_region_o
            have hdr : Below wr.heap.size wr wr.drew := (Below.refl _ _).drew
            have HRW4 := Lib.hid (HRW.out.below hdr); have HS4 := Lib.hid (below_then HS.out hdr HS.out.size)
            have HE4 := Lib.hid (cells_stay (V := wr.drew) HE.out rfl)
            clear hdr e0 e1 e2 x0 x1 x2
            generalize wr.drew = wq at *
            obtain ⟨e0, e1, e2⟩ := HE4.out
            go_wp2_with (at_builtin; refine wpList_append_own_at _ rfl (.tmp 37) (.tmp 42) 25 rfl w2.heap.size 47 i0 _ 3 32 Tryz.underlying25 HI.out HZ0.out HZ2.out HZ3.out rfl (by omega) (.slice a1 m c1) m (flat o) rfl (HRW4.out.own HM.out (al_new _)) _ 1 1 (enc z) rfl rfl (new_atom rfl) (enc_one z) (by unfold maxLen; omega) (by omega) (by have := HS4.out.size; simp; omega) ?_; intro v' w5 hown hgr hnil hat; obtain ⟨a3, c3', rfl, -, -⟩ := own_slice hown; have HR3 := Lib.hid (Row.push (W := w) (c1 := 0) (a1 := none) HM.out hown); have HS3 := Lib.hid ((below_then HS4.out (al_new _) HS4.out.size).grown hgr (by have := HS4.out.size; simp; omega) fun g hg => (HRW4.out.lt g hg).1); clear hown hgr hnil hat)
            go_roundw
            case rel => exact ⟨j + 1, m + 1, c3', a3, true, o ++ [z], by omega, by omega, by go_num, rfl, rfl, Lib.hid (by rw [List.length_append, ← HM.out]; rfl), Lib.hid (by rw [HTK.out]; exact HIA.out.step_yes), HR3, HS3⟩
            case measure => simp [intOf]; omega
        · obtain rfl : j = n := by omega
          have hia := HIA.out
          rw [List.take_of_length_le (by rw [HR.out.len]; exact Nat.le_refl _)] at hia
          have HIE := Lib.hid hia
          obtain ⟨⟨x0, x1, x2⟩, -, -⟩ := c3 HBX.out
          clear hia
          cases d
          · go_wp2_with (at_builtin; refine wpList_append_own_at _ rfl (.tmp 47) (.tmp 49) 25 rfl w2.heap.size 47 i0 _ 3 32 Tryz.underlying25 HI.out HZ0.out HZ2.out HZ3.out rfl (by omega) (.slice a1 m c1) m (flat o) rfl (HRW.out.own HM.out (al_new _)) _ 1 1 (enc x) rfl rfl (new_atom rfl) (enc_one x) (by unfold maxLen; omega) (by omega) (by have := HS.out.size; simp; omega) ?_; intro v' w3 hown hgr hnil hat; obtain ⟨a3, c3', rfl, -, -⟩ := own_slice hown; have HR3 := Lib.hid (Row.push (W := w3) (c1 := 0) (a1 := none) HM.out hown); have HS3 := Lib.hid ((below_then HS.out (al_new _) HS.out.size).grown hgr (by have := HS.out.size; simp; omega) fun g hg => (HRW.out.lt g hg).1); clear hown hgr hnil hat)
            go_ret
            exact ⟨_, rfl, by rw [putA_yes HA.out HIN2.out, ← HIE.out.end_no]; exact own_lower HR3.out (Nat.le_trans HB.out HB2.out.size), below_then HB2.out HS3.out HB2.out.size⟩
          · go_wp2_with (fail)
            go_ret
            exact ⟨_, rfl, by rw [putA_yes HA.out HIN2.out, ← HIE.out.end_yes]; exact own_lower HRW.out (Nat.le_trans HB.out HB2.out.size), below_then HB2.out HS.out HB2.out.size⟩
end Effect
end Go.Proofs.YtggabjmfdnfckaaGreatDoor
