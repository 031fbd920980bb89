import Derived.Test.YtkfkpjngiffamaaGreatDoorGC05
import Derived.Test.YtkfkpjngiffamaaGreatDoorGC00
import Derived.SliceStrings
import Derived.ChangeSlices
import Derived.Deep.MidRow
import Derived.Laws.Rows
import Derived.Lib.SlicesS
import Derived.Sort.OwnSortedInts
import Derived.Shelf.RegionOpenPlain
namespace Go.Proofs.YtkfkpjngiffamaaGreatDoor
open Go.RowKit
set_option linter.unusedVariables false
set_option linter.unusedSimpArgs false
namespace Effect

theorem row_new {B : Nat} {w : World} (hB : B ≤ w.heap.size) : Row B (w.alloc (.cells #[] 67)) (.slice (some ⟨w.heap.size, 0, none⟩) 0 0) [] :=
 ⟨rfl, .inr ⟨w.heap.size, 0, #[], rfl, hB, heap_alloc_new w _, Nat.le_refl _, by unfold maxLen; omega, rfl, rfl⟩⟩
theorem cells_stay {W V : World} {b o : Nat} {x : At} (h : W.cell? ⟨b, o, none⟩ = some (.int .u8 x.k) ∧ W.cell? ⟨b, o + 1, none⟩ = some (.int .i64 x.r) ∧ W.cell? ⟨b, o + 2, none⟩ = some (.string x.x)) (hb : V.heap[b]? = W.heap[b]?) : V.cell? ⟨b, o, none⟩ = some (.int .u8 x.k) ∧ V.cell? ⟨b, o + 1, none⟩ = some (.int .i64 x.r) ∧ V.cell? ⟨b, o + 2, none⟩ = some (.string x.x) :=
 ⟨(World.cell?_of_block hb).trans h.1, (World.cell?_of_block hb).trans h.2.1, (World.cell?_of_block hb).trans h.2.2⟩
theorem cells_below {B : Nat} {W V : World} {b o : Nat} {x : At} (h : W.cell? ⟨b, o, none⟩ = some (.int .u8 x.k) ∧ W.cell? ⟨b, o + 1, none⟩ = some (.int .i64 x.r) ∧ W.cell? ⟨b, o + 2, none⟩ = some (.string x.x)) (hb : b < B) (hV : Below B W V) : V.cell? ⟨b, o, none⟩ = some (.int .u8 x.k) ∧ V.cell? ⟨b, o + 1, none⟩ = some (.int .i64 x.r) ∧ V.cell? ⟨b, o + 2, none⟩ = some (.string x.x) := cells_stay h (hV.block b hb)
theorem w2cells {W : World} {b o : Nat} {l : List At} (h : AtsAt W (some ⟨b, o, none⟩) l) (j : Nat) (hj : j < l.length) : W.cell? ⟨b, o + j * 3, none⟩ = some (.int .u8 (aget l j).k) ∧ W.cell? ⟨b, o + j * 3 + 1, none⟩ = some (.int .i64 (aget l j).r) ∧ W.cell? ⟨b, o + j * 3 + 2, none⟩ = some (.string (aget l j).x) := by
 obtain ⟨b', o', hp, h1⟩ := h.get j hj
 injection hp with hp; injection hp with e1 e2; subst e1 e2
 exact h1
theorem Row.push {B m c1 : Nat} {W w' : World} {a1 : Option Addr} {v' : Value} {l : List At} {x : At} (hm : m = l.length) (h : w'.ownsRow B 67 3 v' (m + 1) (flat l ++ enc x)) : Row B w' v' (l ++ [x]) := by
 subst hm
 unfold Row
 rw [flat_append, flat_single, List.length_append]
 exact h
set_option maxRecDepth 100000 in
set_option maxHeartbeats 12800000 in
theorem put_walk {B n c : Nat} {a : Option Addr} {l : List At} {x : At} {w : World} (h : Row B w (.slice a n c) l) (hB : B ≤ w.heap.size) (hok : ∀ y ∈ l, y.x.size ≤ maxLen) (hx : x.x.size ≤ maxLen) (hn : n ≤ 10000) : Calls Tryz.prog 58 #[.slice a n c, .agg #[.int .u8 x.k, .int .i64 x.r, .string x.x]] w fun e w' => ∃ v, e = .returned v ∧ Row B w' v (putA l x) ∧ Below w.heap.size w w' := by
 have hrd := Rd.of_row h hok
 obtain ⟨i0, hi, hz0, hz2, hz3⟩ := info_parts
 have HI := Lib.hid hi; have HZ0 := Lib.hid hz0; have HZ2 := Lib.hid hz2; have HZ3 := Lib.hid hz3
 have H := Lib.hid h; have HR := Lib.hid hrd; have HB := Lib.hid hB; have HX := Lib.hid hx
 have HN := Lib.hid fun O => heap_alloc_new w O
 have HAT := Lib.hid fun W => refAtom_walk x W hx
 clear h hB hok hx hrd hi hz0 hz2 hz3
 go_enter Tryz.func58, Tryz.ntmps58
 go_wp2_with (fail)
 refine (HAT.out _).mono ?_
 rintro e w1 ⟨rfl, hb1⟩
 have hbox := (hb1.block w.heap.size (by simp)).trans (HN.out _)
 have HB1 := Lib.hid (below_row (Below.refl _ _) hb1 (Nat.le_refl _))
 have HBOX := Lib.hid hbox
 clear hb1
 obtain ⟨⟨x0, x1, x2⟩, -, -⟩ := c3 hbox
 clear hbox
 cases hat : atomB x
 ·have HA := Lib.hid hat
  clear hat
  go_wp2_with (fail)
  go_ret
  exact ⟨_, rfl, by rw [putA_no (.inl HA.out)]; exact H.out.below HB1.out, HB1.out⟩
 ·have HA := Lib.hid hat
  have HIN := Lib.hid (in_walk (c := c) (HR.out.below HB1.out) x (by omega))
  clear hat
  go_wp2_with (fail)
  refine HIN.out.mono ?_
  rintro e w2 ⟨rfl, hb2⟩
  have HB2 := Lib.hid (below_then HB1.out hb2 HB1.out.size)
  have HBOX2 := Lib.hid ((hb2.block _ (lt_of_block HBOX.out)).trans HBOX.out)
  clear hb2 x0 x1 x2
  by_cases hin : x ∈ l
  ·have HIN2 := Lib.hid hin
   rw [decide_eq_true hin]
   clear hin
   go_wp2_with (fail)
   go_ret
   exact ⟨_, rfl, by rw [putA_no (.inr HIN2.out)]; exact H.out.below HB2.out, HB2.out⟩
  ·have HIN2 := Lib.hid hin
   rw [decide_eq_false hin]
   clear hin
   go_wp2_with (fail)
   have HS0 := Lib.hid HB2.out.size
   go_loopw [5, 6, 7, 20] (fun own dn _ i wr => ∃ (j m c1 : Nat) (a1 : Option Addr) (d : Bool) (o : List At), j ≤ n ∧ m ≤ j + 1 ∧ i = .int .i64 (j : Int) ∧ dn = .bool d ∧ own = .slice a1 m c1 ∧ Hid (m = o.length) ∧ Hid (InsAt x d (l.take j) o) ∧ Hid (Row w2.heap.size wr (.slice a1 m c1) o) ∧ Hid (Below w2.heap.size w2 wr)) (fun _ _ _ i _ => n - (intOf i).toNat)
   case atStart => exact ⟨0, 0, 0, some ⟨w2.heap.size, 0, none⟩, false, [], Nat.zero_le _, Nat.zero_le _, rfl, rfl, rfl, Lib.hid rfl, Lib.hid (.inl ⟨rfl, by simp, by simp⟩), Lib.hid (row_new (Nat.le_refl _)), Lib.hid (al_new _)⟩
   case round =>
    obtain ⟨j, m, c1, a1, d, o, hj, hmj, rfl, rfl, rfl, HM, HIA, HRW, HS⟩ := hrel
    have HBX := Lib.hid ((HS.out.block _ (lt_of_block HBOX2.out)).trans HBOX2.out)
    by_cases hlt : j < n
    ·have hjl : j < l.length := by rw [HR.out.len]; exact hlt
     obtain ⟨b, p, rfl, e0, e1, e2⟩ := ((HR.out.below HB2.out).below HS.out).at_.get j hjl
     have htk := at_take l j hjl
     have hblk : b < w2.heap.size := by
      obtain ⟨b', p', hbp, q0, -, -⟩ := (HR.out.below HB2.out).at_.get j hjl
      injection hbp with hbp; injection hbp with hbp; subst hbp
      exact World.block_lt_of_cell? w2 _ q0
     have hew2 := w2cells (HR.out.below HB2.out).at_ j hjl
     generalize aget l j = z at *
     have HTK := Lib.hid htk; have HE := Lib.hid (And.intro e0 (And.intro e1 e2)); have HBL := Lib.hid hblk
     have HEW2 := Lib.hid hew2
     clear htk hjl hblk hew2
     cases d
     ·have HRD := Lib.hid (HRW.out)
      go_upto_region 8 with (fail)
      refine wp_region_held_drew (S := fun (V : World) => V.heap[w.heap.size]? = wr.heap[w.heap.size]? ∧ V.heap[b]? = wr.heap[b]?) (by kernel_rfl) ⟨rfl, rfl⟩ (fun hHeld => ?_)
      clear e0 e1 e2
      refine wpAnyH_take (i := 0) (v := .bool false) rfl (by kernel_rfl) (by kernel_rfl) (by kernel_rfl) (fun _ _ _ h => h) (Or.inl ⟨by rfl, ?_⟩) (by assumption) ?_
      ·intro w' hSw
       first | (go_simp; done) | (go_simp; intro h0; omega) | rfl
      refine wpAnyH_take (i := 1) (v := .bool true) rfl (by kernel_rfl) (by kernel_rfl) (by kernel_rfl) (fun _ _ _ h => h) (Or.inl ⟨by rfl, ?_⟩) (by assumption) ?_
      ·intro w' hSw
       first | (go_simp; done) | (go_simp; intro h0; omega) | rfl
      refine wpAnyH_take (i := 2) (v := .bool true) rfl (by kernel_rfl) (by kernel_rfl) (by kernel_rfl) (fun _ _ _ h => h) (Or.inl ⟨by rfl, ?_⟩) (by assumption) ?_
      ·intro w' hSw
       first | (go_simp; done) | (go_simp; intro h0; omega) | rfl
      refine wpAnyH_take (i := 3) (v := .agg #[.int .u8 x.k, .int .i64 x.r, .string x.x]) rfl (by kernel_rfl) (by kernel_rfl) (by kernel_rfl) (fun _ _ _ h => h) (Or.inl ⟨by rfl, ?_⟩) (by assumption) ?_
      ·intro w' hSw
       obtain ⟨⟨x0, x1, x2⟩, -, -⟩ := c3 (hSw.1.trans HBX.out)
       clear hSw
       first | (go_simp; done) | (go_simp; intro h0; omega) | rfl
      try simp only [Act.put, List.getElem_toArray, List.getElem_cons_succ, List.getElem_cons_zero, List.setIfInBounds_toArray, List.set_cons_zero, List.set_cons_succ]
      refine wpAnyH_take (i := 4) (v := .slice (some ⟨b, p, none⟩) n c) rfl (by kernel_rfl) (by kernel_rfl) (by kernel_rfl) (fun _ _ _ h => h) (Or.inl ⟨by rfl, ?_⟩) (by assumption) ?_
      ·intro w' hSw
       first | (go_simp; done) | (go_simp; intro h0; omega) | rfl
      refine wpAnyH_take (i := 5) (v := .int .i64 (j : Int)) rfl (by kernel_rfl) (by kernel_rfl) (by kernel_rfl) (fun _ _ _ h => h) (Or.inl ⟨by rfl, ?_⟩) (by assumption) ?_
      ·intro w' hSw
       first | (go_simp; done) | (go_simp; intro h0; omega) | rfl
      refine wpAnyH_take (i := 6) (v := .pointer (some ⟨b, p + j * 3, none⟩)) rfl (by kernel_rfl) (by kernel_rfl) (by kernel_rfl) (fun _ _ _ h => h) (Or.inl ⟨by rfl, ?_⟩) (by assumption) ?_
      ·intro w' hSw
       first | (go_simp; done) | (go_simp; intro h0; omega) | rfl
      refine wpAnyH_take (i := 7) (v := .agg #[.int .u8 z.k, .int .i64 z.r, .string z.x]) rfl (by kernel_rfl) (by kernel_rfl) (by kernel_rfl) (fun _ _ _ h => h) (Or.inl ⟨by rfl, ?_⟩) (by assumption) ?_
      ·intro w' hSw
       obtain ⟨e0, e1, e2⟩ := cells_stay HE.out hSw.2
       clear hSw
       first | (go_simp; done) | (go_simp; intro h0; omega) | rfl
      try simp only [Act.put, List.getElem_toArray, List.getElem_cons_succ, List.getElem_cons_zero, List.setIfInBounds_toArray, List.set_cons_zero, List.set_cons_succ]
      refine wpAnyH_ready (rs := [8]) (by kernel_rfl) (by simp) ?_
      refine AllReadyH.cons rfl (fun K hK => ?_) AllReadyH.nil
      have HK2 := Lib.hid hK
      clear hK
      try rw [if_pos (by rfl)]
      have HLS := Lib.hid fun W => less_walk x z W
      go_simp
      refine (HLS.out _).mono ?_
      rintro e w4 ⟨rfl, hb4⟩
      have hb4' : Below wr.heap.size wr w4 := ⟨hb4.os, hb4.tape, hb4.output, hb4.size, hb4.block⟩
      have HRW4 := Lib.hid (HRW.out.below hb4'); have HS4 := Lib.hid (below_then HS.out hb4' HS.out.size)
      have HBX4 := Lib.hid ((hb4'.block _ (lt_of_block HBX.out)).trans HBX.out)
      have HE4 := Lib.hid (cells_stay HE.out (hb4'.block b (Nat.lt_of_lt_of_le HBL.out HS.out.size)))
      refine HK2.out _ _ ⟨hb4'.block _ (lt_of_block HBX.out), hb4'.block b (Nat.lt_of_lt_of_le HBL.out HS.out.size)⟩ (fun hHeld => ?_)
      clear hb4 hb4' HK2
      try simp only [Act.put, List.getElem_toArray, List.getElem_cons_succ, List.getElem_cons_zero, List.setIfInBounds_toArray, List.set_cons_zero, List.set_cons_succ]
      clear K
      refine wpAnyH_take (i := 9) (v := .bool (lessA x z)) rfl (by kernel_rfl) (by kernel_rfl) (by kernel_rfl) (fun _ _ _ h => h) (Or.inl ⟨by rfl, ?_⟩) (by assumption) ?_
      ·intro w' hSw
       first | (go_simp; done) | (go_simp; intro h0; omega) | rfl
      try simp only [Act.put, List.getElem_toArray, List.getElem_cons_succ, List.getElem_cons_zero, List.setIfInBounds_toArray, List.set_cons_zero, List.set_cons_succ]
      refine wpAnyH_done (by kernel_rfl) ?_ _
      clear hHeld
      obtain ⟨⟨x0, x1, x2⟩, -, -⟩ := c3 HBX4.out
      obtain ⟨e0, e1, e2⟩ := HE4.out
      have HE2 := Lib.hid HEW2.out
      cases hls : lessA x z
      ·have HLZ := Lib.hid hls
       clear hls
       go_wp2_with (at_builtin; refine wpList_append_own_at _ rfl (.tmp 37) (.tmp 42) 25 rfl w2.heap.size 67 i0 _ 3 32 Tryz.underlying25 HI.out HZ0.out HZ2.out HZ3.out rfl (by omega) (.slice a1 m c1) m (flat o) rfl (HRW4.out.own HM.out (al_new _)) _ 1 1 (enc z) rfl rfl (new_atom rfl) (enc_one z) (by unfold maxLen; omega) (by omega) (by have := HS4.out.size; simp; omega) ?_; intro v' w5 hown hgr hnil hat; obtain ⟨a3, c3', rfl, -, -⟩ := own_slice hown; have HR3 := Lib.hid (Row.push (W := w) (c1 := 0) (a1 := none) HM.out hown); have HS3 := Lib.hid ((below_then HS4.out (al_new _) HS4.out.size).grown hgr (by have := HS4.out.size; simp; omega) fun g hg => (HRW4.out.lt g hg).1); clear hown hgr hnil hat)
       go_roundw
       case rel => exact ⟨j + 1, m + 1, c3', a3, false, o ++ [z], by omega, by omega, by go_num, rfl, rfl, Lib.hid (by rw [List.length_append, ← HM.out]; rfl), Lib.hid (by rw [HTK.out]; exact HIA.out.step_no HLZ.out), HR3, HS3⟩
       case measure => simp [intOf]; omega
      ·have HLZ := Lib.hid hls
       clear hls
       go_wp2_with (first | (at_builtin; refine wpList_append_own_at _ rfl (.tmp 33) (.tmp 35) 25 rfl w2.heap.size 67 i0 _ 3 32 Tryz.underlying25 HI.out HZ0.out HZ2.out HZ3.out rfl (by omega) (.slice a1 m c1) m (flat o) rfl (HRW4.out.own HM.out (al_new _)) _ 1 1 (enc x) rfl rfl (new_atom rfl) (enc_one x) (by unfold maxLen; omega) (by omega) (by have := HS4.out.size; simp; omega) ?_; intro v' w5 hown hgr hnil hat; obtain ⟨a3, c3', rfl, -, -⟩ := own_slice hown; have HR3 := Lib.hid (Row.push (W := w) (c1 := 0) (a1 := none) HM.out hown); have HS3 := Lib.hid ((below_then HS4.out (al_new _) HS4.out.size).grown hgr (by have := HS4.out.size; simp; omega) fun g hg => (HRW4.out.lt g hg).1); clear hown hgr hnil hat; obtain ⟨y0, y1, y2⟩ := cells_below HE2.out HBL.out HS3.out) | (at_builtin; refine wpList_append_own_at _ rfl (.tmp 37) (.tmp 42) 25 rfl w2.heap.size 67 i0 _ 3 32 Tryz.underlying25 HI.out HZ0.out HZ2.out HZ3.out rfl (by omega) (.slice a3 (m + 1) c3') (m + 1) (flat (o ++ [x])) rfl (HR3.out.own (by rw [List.length_append, ← HM.out]; rfl) (al_new _)) _ 1 1 (enc z) rfl rfl (new_atom rfl) (enc_one z) (by unfold maxLen; omega) (by omega) (by have := HS3.out.size; simp; omega) ?_; intro v' w6 hown hgr hnil hat; obtain ⟨a4, c4', rfl, -, -⟩ := own_slice hown; have HR4 := Lib.hid (Row.push (W := w) (c1 := 0) (a1 := none) (by rw [List.length_append, ← HM.out]; rfl) hown); have HS5 := Lib.hid ((below_then HS3.out (al_new _) HS3.out.size).grown hgr (by have := HS3.out.size; simp; omega) fun g hg => (HR3.out.lt g hg).1); clear hown hgr hnil hat))
       go_roundw
       case rel => exact ⟨j + 1, m + 1 + 1, c4', a4, true, o ++ [x] ++ [z], by omega, by have := HIA.out.len_no; have := HM.out; have e := List.length_take (i := j) (l := l); omega, by go_num, rfl, rfl, Lib.hid (by rw [List.length_append, List.length_append, ← HM.out]; rfl), Lib.hid (by rw [HTK.out]; exact HIA.out.step_at HLZ.out), HR4, HS5⟩
       case measure => simp [intOf]; omega
     ·obtain ⟨⟨x0, x1, x2⟩, -, -⟩ := c3 HBX.out
      have mixed : Tryz.prog.follows .mixedOrders = true := by kernel_rfl
      go_wp2_with (fail)
      go_region_o
      have hdr : Below wr.heap.size wr wr.drew := (Below.refl _ _).drew
      have HRW4 := Lib.hid (HRW.out.below hdr); have HS4 := Lib.hid (below_then HS.out hdr HS.out.size)
      have HE4 := Lib.hid (cells_stay (V := wr.drew) HE.out rfl)
      clear hdr e0 e1 e2 x0 x1 x2
      generalize wr.drew = wq at *
      obtain ⟨e0, e1, e2⟩ := HE4.out
      go_wp2_with (at_builtin; refine wpList_append_own_at _ rfl (.tmp 37) (.tmp 42) 25 rfl w2.heap.size 67 i0 _ 3 32 Tryz.underlying25 HI.out HZ0.out HZ2.out HZ3.out rfl (by omega) (.slice a1 m c1) m (flat o) rfl (HRW4.out.own HM.out (al_new _)) _ 1 1 (enc z) rfl rfl (new_atom rfl) (enc_one z) (by unfold maxLen; omega) (by omega) (by have := HS4.out.size; simp; omega) ?_; intro v' w5 hown hgr hnil hat; obtain ⟨a3, c3', rfl, -, -⟩ := own_slice hown; have HR3 := Lib.hid (Row.push (W := w) (c1 := 0) (a1 := none) HM.out hown); have HS3 := Lib.hid ((below_then HS4.out (al_new _) HS4.out.size).grown hgr (by have := HS4.out.size; simp; omega) fun g hg => (HRW4.out.lt g hg).1); clear hown hgr hnil hat)
      go_roundw
      case rel => exact ⟨j + 1, m + 1, c3', a3, true, o ++ [z], by omega, by omega, by go_num, rfl, rfl, Lib.hid (by rw [List.length_append, ← HM.out]; rfl), Lib.hid (by rw [HTK.out]; exact HIA.out.step_yes), HR3, HS3⟩
      case measure => simp [intOf]; omega
    ·obtain rfl : j = n := by omega
     have hia := HIA.out
     rw [List.take_of_length_le (by rw [HR.out.len]; exact Nat.le_refl _)] at hia
     have HIE := Lib.hid hia
     obtain ⟨⟨x0, x1, x2⟩, -, -⟩ := c3 HBX.out
     clear hia
     cases d
     ·go_wp2_with (at_builtin; refine wpList_append_own_at _ rfl (.tmp 47) (.tmp 49) 25 rfl w2.heap.size 67 i0 _ 3 32 Tryz.underlying25 HI.out HZ0.out HZ2.out HZ3.out rfl (by omega) (.slice a1 m c1) m (flat o) rfl (HRW.out.own HM.out (al_new _)) _ 1 1 (enc x) rfl rfl (new_atom rfl) (enc_one x) (by unfold maxLen; omega) (by omega) (by have := HS.out.size; simp; omega) ?_; intro v' w3 hown hgr hnil hat; obtain ⟨a3, c3', rfl, -, -⟩ := own_slice hown; have HR3 := Lib.hid (Row.push (W := w3) (c1 := 0) (a1 := none) HM.out hown); have HS3 := Lib.hid ((below_then HS.out (al_new _) HS.out.size).grown hgr (by have := HS.out.size; simp; omega) fun g hg => (HRW.out.lt g hg).1); clear hown hgr hnil hat)
      go_ret
      exact ⟨_, rfl, by rw [putA_yes HA.out HIN2.out, ← HIE.out.end_no]; exact own_lower HR3.out (Nat.le_trans HB.out HB2.out.size), below_then HB2.out HS3.out HB2.out.size⟩
     ·go_wp2_with (fail)
      go_ret
      exact ⟨_, rfl, by rw [putA_yes HA.out HIN2.out, ← HIE.out.end_yes]; exact own_lower HRW.out (Nat.le_trans HB.out HB2.out.size), below_then HB2.out HS.out HB2.out.size⟩
end Effect
end Go.Proofs.YtkfkpjngiffamaaGreatDoor

namespace Go.Proofs.YtkfkpjngiffamaaGreatDoor
open Go.RowKit Go.ChangeShapes Go.WideShapes
namespace Views
open Chars (BytesAt Bytes)

def IsRow (k : IntKind) (w : World) (a : Option Addr) (len cap : Nat) (zs : List Int) : Prop :=
 (a = none ∧ len = 0 ∧ cap = 0 ∧ zs = []) ∨
 ∃ x, a = some x ∧ len ≤ cap ∧ cap ≤ maxLen ∧ zs.length = cap ∧ (∀ i, i < zs.length → w.cell? (x.add i) = some (.int k (zs.getD i 0))) ∧ ∀ n ∈ zs, (Lit.int k n).wf = true

def IsStrs (w : World) (a : Option Addr) (len cap : Nat) (ss : List ByteArray) : Prop :=
 (a = none ∧ len = 0 ∧ cap = 0 ∧ ss = []) ∨
 ∃ x, a = some x ∧ len ≤ cap ∧ cap ≤ maxLen ∧ ss.length = cap ∧ (∀ i, i < ss.length → w.cell? (x.add i) = some (.string (ss.getD i ByteArray.empty))) ∧ ∀ s ∈ ss, s.size ≤ maxLen

end Views
end Go.Proofs.YtkfkpjngiffamaaGreatDoor
namespace Go.Proofs.YtkfkpjngiffamaaGreatDoor
open Go.RowKit
set_option linter.unusedVariables false
set_option linter.unusedSimpArgs false
namespace Effect

def nget (l : List Int) (i : Nat) : Int := l.getD i 0
theorem nget_at {l : List Int} {i : Nat} (h : i < l.length) : l[i]? = some (nget l i) := by
 unfold nget; rw [List.getD_eq_getElem?_getD, List.getElem?_eq_getElem h]; rfl
theorem nget_mem {l : List Int} {i : Nat} (h : i < l.length) : nget l i ∈ l := List.mem_of_getElem? (nget_at h)
structure RdI (w : World) (n : Nat) (p : Option Addr) (l : List Int) : Prop where
 len : l.length = n
 at_ : l = [] ∨ ∃ b o, p = some ⟨b, o, none⟩ ∧ ∀ i, i < l.length → w.cell? ⟨b, o + i, none⟩ = some (.int .i64 (nget l i))
 ok : ∀ x ∈ l, -9223372036854775808 ≤ x ∧ x ≤ 9223372036854775807
theorem RdI.below {w W : World} {n : Nat} {p : Option Addr} {l : List Int} (h : RdI w n p l) (hb : Below w.heap.size w W) : RdI W n p l := by
 refine ⟨h.len, h.at_.imp id ?_, h.ok⟩
 rintro ⟨b, o, hp, hc⟩
 exact ⟨b, o, hp, fun i hi => (hb.cell (p := ⟨b, _, none⟩) (World.block_lt_of_cell? w _ (hc i hi))).trans (hc i hi)⟩
theorem RdI.get {w : World} {n : Nat} {p : Option Addr} {l : List Int} (h : RdI w n p l) (i : Nat) (hi : i < l.length) : ∃ b o, p = some ⟨b, o, none⟩ ∧ w.cell? ⟨b, o + i, none⟩ = some (.int .i64 (nget l i)) := by
 rcases h.at_ with rfl | ⟨b, o, hp, hc⟩
 ·simp at hi
 ·exact ⟨b, o, hp, hc i hi⟩
theorem RdI.of_row {w : World} {a : Option Addr} {len cap : Nat} {zs : List Int} (h : Views.IsRow .i64 w a len cap zs) : RdI w len a (zs.take len) ∧ len ≤ maxLen := by
 rcases h with ⟨rfl, rfl, rfl, rfl⟩ | ⟨x, rfl, h1, h2, h3, h4, h5⟩
 ·exact ⟨⟨rfl, .inl rfl, fun x hx => by cases hx⟩, Nat.zero_le _⟩
 ·have hl : (zs.take len).length = len := by rw [List.length_take]; omega
  refine ⟨⟨hl, ?_, fun y hy => wf_i64 (h5 y (List.mem_of_mem_take hy))⟩, by omega⟩
  by_cases h0 : len = 0
  ·subst h0; exact .inl (by simp)
  ·obtain ⟨b, o, s⟩ := x
   have hs : s = none := by
    have := World.cell?_spot (h4 0 (by omega))
    simpa [Addr.add] using this
   subst hs
   refine .inr ⟨b, o, rfl, fun i hi => ?_⟩
   rw [hl] at hi
   have := h4 i (by omega)
   rw [Addr.add_lit] at this
   rw [this]
   unfold nget
   rw [List.getD_eq_getElem?_getD, List.getD_eq_getElem?_getD, List.getElem?_take_of_lt hi]
end Effect
end Go.Proofs.YtkfkpjngiffamaaGreatDoor
namespace Go.Proofs.YtkfkpjngiffamaaGreatDoor
open Go.RowKit Go.ChangeShapes Go.WideShapes Go.Deep
set_option linter.unusedVariables false
namespace Aterm
open Effect (At AtOk AtsAt Rd RdI)

structure Hd where
 h : Term.Hd
 rho : Int
 rhos : List Int
 e : List At
 ty : Rt.RT
 re : Rt.RT
inductive AT where
 | node : Hd → List AT → AT
def AT.h : AT → Hd
 | .node h _ => h
def AT.ks : AT → List AT
 | .node _ l => l
mutual
def wt : AT → Nat
 | .node _ l => wts l + 1
def wts : List AT → Nat
 | [] => 0
 | t :: ts => wt t + wts ts
end
theorem wt_pos (t : AT) : 0 < wt t := by cases t; unfold wt; omega
theorem wt_ks (t : AT) : wt t = wts t.ks + 1 := by cases t; unfold wt; rfl
theorem wts_nil : wts [] = 0 := by unfold wts; rfl
theorem wts_cons (t : AT) (ts : List AT) : wts (t :: ts) = wt t + wts ts := by conv => lhs; unfold wts
theorem wts_append : ∀ (ts us : List AT), wts (ts ++ us) = wts ts + wts us
 | [], us => by rw [wts_nil]; simp
 | t :: ts, us => by rw [List.cons_append, wts_cons, wts_cons, wts_append ts us]; omega
theorem wts_len : ∀ ts : List AT, ts.length ≤ wts ts
 | [] => by simp
 | t :: ts => by rw [wts_cons, List.length_cons]; have := wt_pos t; have := wts_len ts; omega
def hd0 : Hd := ⟨⟨0, 0, 0, 0, ByteArray.empty, ByteArray.empty, ByteArray.empty⟩, 0, [], [], .node ⟨0, 0, []⟩ [], .node ⟨0, 0, []⟩ []⟩
def tget (ts : List AT) (i : Nat) : AT := ts.getD i (.node hd0 [])
theorem tget_at {ts : List AT} {i : Nat} (h : i < ts.length) : ts[i]? = some (tget ts i) := by
 unfold tget
 rw [List.getD_eq_getElem?_getD, List.getElem?_eq_getElem h]
 rfl
theorem tget_mem {ts : List AT} {i : Nat} (h : i < ts.length) : tget ts i ∈ ts := List.mem_of_getElem? (tget_at h)
theorem wts_mem : ∀ {ts : List AT} {t : AT}, t ∈ ts → wt t ≤ wts ts
 | t :: ts, u, h => by
  rw [wts_cons]
  rcases List.mem_cons.1 h with rfl | h
  ·omega
  ·have := wts_mem h; omega
theorem wts_get {ts : List AT} {i : Nat} (h : i < ts.length) : wt (tget ts i) ≤ wts ts := wts_mem (tget_mem h)
theorem drop_tget (ts : List AT) (k : Nat) (h : k < ts.length) : ts.drop k = tget ts k :: ts.drop (k + 1) := by
 rw [List.drop_eq_getElem_cons h]
 have := tget_at h
 rw [List.getElem?_eq_getElem h] at this
 rw [Option.some.inj this]
theorem take_tget (ts : List AT) (k : Nat) (h : k < ts.length) : ts.take (k + 1) = ts.take k ++ [tget ts k] := by
 rw [List.take_add_one, tget_at h]; rfl
theorem wts_take_le : ∀ (ts : List AT) (k : Nat), wts (ts.take k) ≤ wts ts
 | [], k => by simp
 | t :: ts, 0 => by rw [List.take_zero, wts_nil]; omega
 | t :: ts, k + 1 => by rw [List.take_succ_cons, wts_cons, wts_cons]; have := wts_take_le ts k; omega
theorem wts_take_step (ts : List AT) (j : Nat) (hj : j < ts.length) : wts (ts.take (j + 1)) = wts (ts.take j) + wt (tget ts j) := by
 rw [take_tget ts j hj, wts_append, wts_cons, wts_nil]; omega
theorem wts_drop (ts : List AT) (j : Nat) (h : j < ts.length) : wts (ts.drop j) = wt (tget ts j) + wts (ts.drop (j + 1)) := by
 rw [drop_tget ts j h, wts_cons]

structure V where
 ra : Option Addr
 rc : Nat
 ea : Option Addr
 ec : Nat
 tea : Option Addr
 tec : Nat
 tka : Option Addr
 tkc : Nat
 sea : Option Addr
 sec : Nat
 ska : Option Addr
 skc : Nat
 ka : Option Addr
 kc : Nat
def v0 : V := ⟨none, 0, none, 0, none, 0, none, 0, none, 0, none, 0, none, 0⟩
@[reducible] def acells (h : Hd) (v : V) (l : Nat) : List Value := [.int .u8 h.h.k, .int .u8 h.h.op, .int .i64 h.h.pl, .int .i64 h.h.n, .string h.h.name, .string h.h.arg, .string h.h.exn, .int .i64 h.rho, .slice v.ra h.rhos.length v.rc, .slice v.ea h.e.length v.ec, .int .u8 h.ty.h.k, .int .i64 h.ty.h.r, .slice v.tea h.ty.h.e.length v.tec, .slice v.tka h.ty.ks.length v.tkc, .int .u8 h.re.h.k, .int .i64 h.re.h.r, .slice v.sea h.re.h.e.length v.sec, .slice v.ska h.re.ks.length v.skc, .slice v.ka l v.kc]
structure HdIs (w : World) (h : Hd) (v : V) : Prop where
 hd : Term.HdOk h.h
 rho : -9223372036854775808 ≤ h.rho ∧ h.rho ≤ 9223372036854775807
 rhos : RdI w h.rhos.length v.ra h.rhos
 rcap : h.rhos.length ≤ v.rc ∧ v.rc ≤ maxLen
 eff : Rt.EffIs w v.ea h.e.length v.ec h.e
 eok : ∀ x ∈ h.e, AtOk x
 ty : Rt.RtIs w h.ty.h v.tea h.ty.h.e.length v.tec v.tka h.ty.ks.length v.tkc h.ty
 re : Rt.RtIs w h.re.h v.sea h.re.h.e.length v.sec v.ska h.re.ks.length v.skc h.re
theorem HdIs.below {w W : World} {h : Hd} {v : V} (k : HdIs w h v) (hb : Below w.heap.size w W) : HdIs W h v :=
 ⟨k.hd, k.rho, k.rhos.below hb, k.rcap, k.eff.below hb, k.eok, k.ty.below hb, k.re.below hb⟩

inductive Kids (w : World) : Option Addr → List AT → Prop where
 | nokids (p : Option Addr) : Kids w p []
 | atkids (b o : Nat) (ts : List AT) (v : Nat → V)
   (hh : ∀ i, i < ts.length → HdIs w (tget ts i).h (v i))
   (hc : ∀ i, i < ts.length → ∀ j x, (acells (tget ts i).h (v i) (tget ts i).ks.length)[j]? = some x → w.cell? ⟨b, o + i * 19 + j, none⟩ = some x)
   (hl : ∀ i, i < ts.length → (tget ts i).ks.length ≤ (v i).kc ∧ (v i).kc ≤ maxLen)
   (hk : ∀ i, i < ts.length → Kids w (v i).ka (tget ts i).ks) : Kids w (some ⟨b, o, none⟩) ts

structure AtIs (w : World) (h : Hd) (v : V) (l : Nat) (t : AT) : Prop where
 head : t.h = h
 len : t.ks.length = l
 ok : HdIs w h v
 cap : l ≤ v.kc ∧ v.kc ≤ maxLen
 kids : Kids w v.ka t.ks

@[reducible] def At19 (w : World) (b o : Nat) (h : Hd) (v : V) (l : Nat) : Prop := w.cell? ⟨b, o, none⟩ = some (.int .u8 h.h.k) ∧ w.cell? ⟨b, o + 1, none⟩ = some (.int .u8 h.h.op) ∧ w.cell? ⟨b, o + 2, none⟩ = some (.int .i64 h.h.pl) ∧ w.cell? ⟨b, o + 3, none⟩ = some (.int .i64 h.h.n) ∧ w.cell? ⟨b, o + 4, none⟩ = some (.string h.h.name) ∧ w.cell? ⟨b, o + 5, none⟩ = some (.string h.h.arg) ∧ w.cell? ⟨b, o + 6, none⟩ = some (.string h.h.exn) ∧ w.cell? ⟨b, o + 7, none⟩ = some (.int .i64 h.rho) ∧ w.cell? ⟨b, o + 8, none⟩ = some (.slice v.ra h.rhos.length v.rc) ∧ w.cell? ⟨b, o + 9, none⟩ = some (.slice v.ea h.e.length v.ec) ∧ w.cell? ⟨b, o + 10, none⟩ = some (.int .u8 h.ty.h.k) ∧ w.cell? ⟨b, o + 11, none⟩ = some (.int .i64 h.ty.h.r) ∧ w.cell? ⟨b, o + 12, none⟩ = some (.slice v.tea h.ty.h.e.length v.tec) ∧ w.cell? ⟨b, o + 13, none⟩ = some (.slice v.tka h.ty.ks.length v.tkc) ∧ w.cell? ⟨b, o + 14, none⟩ = some (.int .u8 h.re.h.k) ∧ w.cell? ⟨b, o + 15, none⟩ = some (.int .i64 h.re.h.r) ∧ w.cell? ⟨b, o + 16, none⟩ = some (.slice v.sea h.re.h.e.length v.sec) ∧ w.cell? ⟨b, o + 17, none⟩ = some (.slice v.ska h.re.ks.length v.skc) ∧ w.cell? ⟨b, o + 18, none⟩ = some (.slice v.ka l v.kc)
theorem Kids.get {w : World} {p : Option Addr} {ts : List AT} (h : Kids w p ts) (i : Nat) (hi : i < ts.length) :
  ∃ b o v, p = some ⟨b, o, none⟩ ∧ AtIs w (tget ts i).h v (tget ts i).ks.length (tget ts i) ∧ At19 w b (o + i * 19) (tget ts i).h v (tget ts i).ks.length := by
 cases h with
 | nokids => simp at hi
 | atkids b o _ v hh hc hl hk =>
  have hci := hc i hi
  exact ⟨b, o, v i, rfl, ⟨rfl, rfl, hh i hi, hl i hi, hk i hi⟩, hci 0 _ rfl, hci 1 _ rfl, hci 2 _ rfl, hci 3 _ rfl, hci 4 _ rfl, hci 5 _ rfl, hci 6 _ rfl, hci 7 _ rfl, hci 8 _ rfl, hci 9 _ rfl, hci 10 _ rfl, hci 11 _ rfl, hci 12 _ rfl, hci 13 _ rfl, hci 14 _ rfl, hci 15 _ rfl, hci 16 _ rfl, hci 17 _ rfl, hci 18 _ rfl⟩
theorem Kids.load {w : World} {p : Option Addr} {ts : List AT} (h : Kids w p ts) (i : Nat) (hi : i < ts.length) :
  ∃ b o v, p = some ⟨b, o, none⟩ ∧ AtIs w (tget ts i).h v (tget ts i).ks.length (tget ts i) ∧ w.rangeAt b (o + i * 19) (acells (tget ts i).h v (tget ts i).ks.length) := by
 cases h with
 | nokids => simp at hi
 | atkids b o _ v hh hc hl hk => exact ⟨b, o, v i, rfl, ⟨rfl, rfl, hh i hi, hl i hi, hk i hi⟩, fun j x hx => hc i hi j x hx⟩
theorem Kids.stay {w W : World} {p : Option Addr} {ts : List AT} (h : Kids w p ts) (hb : Below w.heap.size w W) : Kids W p ts := by
 induction h with
 | nokids p => exact .nokids p
 | atkids b o ts v hh hc hl hk ih =>
  refine .atkids b o ts v (fun i hi => (hh i hi).below hb) (fun i hi j x hv => ?_) hl (fun i hi => ih i hi)
  have h0 := hc i hi j x hv
  exact (hb.cell (p := ⟨b, o + i * 19 + j, none⟩) (World.block_lt_of_cell? w _ h0)).trans h0
theorem AtIs.below {w W : World} {h : Hd} {v : V} {l : Nat} {t : AT} (k : AtIs w h v l t) (hb : Below w.heap.size w W) : AtIs W h v l t := ⟨k.head, k.len, k.ok.below hb, k.cap, k.kids.stay hb⟩

theorem list19 {α : Type} {l : List α} (h : l.length = 19) : ∃ c0 c1 c2 c3 c4 c5 c6 c7 c8 c9 c10 c11 c12 c13 c14 c15 c16 c17 c18, l = [c0, c1, c2, c3, c4, c5, c6, c7, c8, c9, c10, c11, c12, c13, c14, c15, c16, c17, c18] := by
 match l, h with
 | [c0, c1, c2, c3, c4, c5, c6, c7, c8, c9, c10, c11, c12, c13, c14, c15, c16, c17, c18], _ => exact ⟨c0, c1, c2, c3, c4, c5, c6, c7, c8, c9, c10, c11, c12, c13, c14, c15, c16, c17, c18, rfl⟩
theorem atCells : Tryz.prog.cellsOf 31 = 19 := by kernel_rfl
theorem rowCells : Tryz.prog.cellsOf 24 = 1 := by kernel_rfl
theorem effCells : Tryz.prog.cellsOf 25 = 1 := by kernel_rfl
theorem kidCells : Tryz.prog.cellsOf 29 = 1 := by kernel_rfl
theorem atInfo : (Tryz.prog.info? 31).map (·.size) = some 19 := by kernel_rfl
theorem at_load {ops : Array Oper} {rest : List Oper} {op : Oper} {a : Act} {w : World} {Q : Exit → Act → World → Prop} (hgd : op.guard = none) (x : Operand) (ho : op.op = .load 31 x)
  (b o : Nat) (hx : a.eval x = .pointer (some ⟨b, o, none⟩)) {h : Hd} {v : V} {l : Nat} (hr : w.rangeAt b o (acells h v l))
  (k : wpList Tryz.prog ops Q rest (a.put op.dst (.agg #[.int .u8 h.h.k, .int .u8 h.h.op, .int .i64 h.h.pl, .int .i64 h.h.n, .string h.h.name, .string h.h.arg, .string h.h.exn, .int .i64 h.rho, .slice v.ra h.rhos.length v.rc, .slice v.ea h.e.length v.ec, .int .u8 h.ty.h.k, .int .i64 h.ty.h.r, .slice v.tea h.ty.h.e.length v.tec, .slice v.tka h.ty.ks.length v.tkc, .int .u8 h.re.h.k, .int .i64 h.re.h.r, .slice v.sea h.re.h.e.length v.sec, .slice v.ska h.re.ks.length v.skc, .slice v.ka l v.kc])) w) : wpList Tryz.prog ops Q (op :: rest) a w :=
 wpList_load_mid hgd 31 x ho b o hx (acells h v l) _ hr Tryz.underlying31 rfl atInfo k
theorem atFields : ∃ f0 f1 f2 f3 f4 f5 f6 : Field, Tryz.prog.underlying 31 = some (.struct #[f0, f1, f2, f3, f4, f5, f6]) ∧
  (f0.type = 23 ∧ f0.offset = 0) ∧ (Tryz.prog.underlying f1.type = some (.int .i64) ∧ f1.offset = 7 ∧ Tryz.prog.cellsOf f1.type = 1) ∧ (f2.type = 24 ∧ f2.offset = 8) ∧ (f3.type = 25 ∧ f3.offset = 9) ∧
  (f4.type = 28 ∧ f4.offset = 10) ∧ (f5.type = 28 ∧ f5.offset = 14) ∧ (f6.type = 29 ∧ f6.offset = 18) :=
 ⟨_, _, _, _, _, _, _, Tryz.underlying31, ⟨by kernel_rfl, by kernel_rfl⟩, ⟨by kernel_rfl, by kernel_rfl, by kernel_rfl⟩, ⟨by kernel_rfl, by kernel_rfl⟩, ⟨by kernel_rfl, by kernel_rfl⟩, ⟨by kernel_rfl, by kernel_rfl⟩, ⟨by kernel_rfl, by kernel_rfl⟩, ⟨by kernel_rfl, by kernel_rfl⟩⟩

section
variable {H : Type} {enc : TypeId × Value → H} {w : World} {base : Nat} {sp : Nat → Bool} {held : Bool}
theorem open_row {fuel : Nat} {cs : List Value} {y : DataW H × List MemPlace} (h : DataW.trod enc Tryz.prog w base sp held fuel 24 cs = some y) :
  ∃ p l c zs, cs = [.slice p l c] ∧ zs.length = l ∧ RdI w l p zs ∧ (l ≤ c ∧ c ≤ maxLen) := by
 rcases open_ints Tryz.underlying24 Tryz.underlying3 (by kernel_rfl) h with ⟨rfl, _⟩ | ⟨x, l, c, zs, hcs, _, hl, hm, hz, _, hcell, hwz⟩
 ·exact ⟨none, 0, 0, [], rfl, rfl, ⟨rfl, .inl rfl, by simp⟩, by unfold maxLen; omega⟩
 ·have hzl : l ≤ zs.length := by rw [hz]; split <;> omega
  have hl' : (zs.take l).length = l := by rw [List.length_take]; omega
  refine ⟨some x, l, c, zs.take l, hcs, hl', ⟨hl', ?_, fun y hy => Effect.wf_i64 (hwz y (List.mem_of_mem_take hy))⟩, hl, hm⟩
  by_cases h0 : l = 0
  ·subst h0; exact .inl (by simp)
  ·obtain ⟨b, o, s⟩ := x
   have hs : s = none := by
    have := World.cell?_spot (hcell 0 (by omega))
    simpa [Addr.add] using this
   subst hs
   refine .inr ⟨b, o, rfl, fun i hi => ?_⟩
   rw [hl'] at hi
   have := hcell i (by omega)
   rw [Addr.add_lit] at this
   rw [this]
   unfold Effect.nget
   rw [List.getD_eq_getElem?_getD, List.getD_eq_getElem?_getD, List.getElem?_take_of_lt hi]
theorem open_all : ∀ fuel : Nat,
  (∀ (cs : List Value) (y : DataW H × List MemPlace), DataW.trod enc Tryz.prog w base sp held fuel 31 cs = some y → ∃ h v l t, cs = acells h v l ∧ AtIs w h v l t) ∧
  (∀ (cs : List Value) (y : DataW H × List MemPlace), DataW.trod enc Tryz.prog w base sp held fuel 29 cs = some y → ∃ p l c ts, cs = [.slice p l c] ∧ ts.length = l ∧ l ≤ c ∧ c ≤ maxLen ∧ Kids w p ts) := by
 intro fuel
 induction fuel using Nat.strongRecOn with
 | _ fuel ih =>
  constructor
  ·intro cs y h
   obtain ⟨f0, f1, f2, f3, f4, f5, f6, hu, ⟨t0, o0⟩, ⟨u1, o1, k1⟩, ⟨t2, o2⟩, ⟨t3, o3⟩, ⟨t4, o4⟩, ⟨t5, o5⟩, ⟨t6, o6⟩⟩ := atFields
   obtain ⟨xs, n, hfuel, _, hlen, hxl, hf⟩ := DataW.trod_struct hu h
   rw [atCells] at hlen
   obtain ⟨c0, c1, c2, c3, c4, c5, c6, c7, c8, c9, c10, c11, c12, c13, c14, c15, c16, c17, c18, rfl⟩ := list19 hlen
   have hxl' : xs.length = 7 := hxl
   obtain ⟨y0, y1, y2, y3, y4, y5, y6, rfl⟩ := Term.list7 hxl'
   have h0 := hf 0 f0 rfl
   have h1 := hf 1 f1 rfl
   have h2 := hf 2 f2 rfl
   have h3 := hf 3 f3 rfl
   have h4 := hf 4 f4 rfl
   have h5 := hf 5 f5 rfl
   have h6 := hf 6 f6 rfl
   rw [t0, Term.hdCells, o0] at h0
   rw [k1, o1] at h1
   rw [t2, rowCells, o2] at h2
   rw [t3, effCells, o3] at h3
   rw [t4, Rt.rtCells, o4] at h4
   rw [t5, Rt.rtCells, o5] at h5
   rw [t6, kidCells, o6] at h6
   have e0 : DataW.trod enc Tryz.prog w base sp held n 23 [c0, c1, c2, c3, c4, c5, c6] = some y0 := h0
   have e1 : DataW.trod enc Tryz.prog w base sp held n f1.type [c7] = some y1 := h1
   have e2 : DataW.trod enc Tryz.prog w base sp held n 24 [c8] = some y2 := h2
   have e3 : DataW.trod enc Tryz.prog w base sp held n 25 [c9] = some y3 := h3
   have e4 : DataW.trod enc Tryz.prog w base sp held n 28 [c10, c11, c12, c13] = some y4 := h4
   have e5 : DataW.trod enc Tryz.prog w base sp held n 28 [c14, c15, c16, c17] = some y5 := h5
   have e6 : DataW.trod enc Tryz.prog w base sp held n 29 [c18] = some y6 := h6
   obtain ⟨hd, hcs, hok⟩ := Term.open_hd e0
   obtain ⟨R, r1, _, g1⟩ := DataW.trod_int u1 e1
   injection r1 with r1
   subst r1
   obtain ⟨ra, rl, rc, zs, hcs2, hzl, hzr, hzc⟩ := open_row e2
   injection hcs2 with hcs2
   subst hcs2
   obtain ⟨pe, ne, ce, es, hcs3, hes, hcap⟩ := Effect.open_row2 e3
   injection hcs3 with hcs3
   subst hcs3
   obtain ⟨th, tea, tne, tec, tka, tl, tkc, ty, hcs4, hty⟩ := (Rt.open_all n).1 _ _ e4
   obtain ⟨sh, sea, sne, sec, ska, sl, skc, re, hcs5, hre⟩ := (Rt.open_all n).1 _ _ e5
   obtain ⟨p, l, c, ts, hcs6, hl, hlc, hcm, hk⟩ := (ih n (by omega)).2 _ _ e6
   injection hcs6 with hcs6
   subst hcs6
   have a1 := hty.head; have a2 := hty.elen; have a3 := hty.len
   have b1 := hre.head; have b2 := hre.elen; have b3 := hre.len
   subst a1 a2 a3 b1 b2 b3
   unfold Term.hcells at hcs
   unfold Rt.rcells at hcs4 hcs5
   simp only [List.cons.injEq, and_true] at hcs hcs4 hcs5
   obtain ⟨rfl, rfl, rfl, rfl, rfl, rfl, rfl⟩ := hcs
   obtain ⟨rfl, rfl, rfl, rfl⟩ := hcs4
   obtain ⟨rfl, rfl, rfl, rfl⟩ := hcs5
   obtain rfl := hzl
   have hel := hes.1
   obtain rfl := hel
   exact ⟨⟨hd, R, zs, es, ty, re⟩, ⟨ra, rc, pe, ce, tea, tec, tka, tkc, sea, sec, ska, skc, p, c⟩, l, .node ⟨hd, R, zs, es, ty, re⟩ ts, rfl, ⟨rfl, hl, ⟨hok, Effect.wf_i64 g1, hzr, hzc, ⟨hes.rd, hcap⟩, hes.2.2.2, hty, hre⟩, ⟨hlc, hcm⟩, hk⟩⟩
  ·intro cs y h
   rcases DataW.trod_slice Tryz.underlying29 h with ⟨rfl, _⟩ | ⟨a, len, cap, elems, rest, n, hfuel, rfl, _, hb, hl, hm, hlen, hel, _, _⟩
   ·exact ⟨none, 0, 0, [], rfl, rfl, Nat.le_refl _, by unfold maxLen; omega, Kids.nokids _⟩
   ·have each : ∀ i, i < len → ∃ h v l t, AtIs w h v l t ∧ ∀ j x, (acells h v l)[j]? = some x → w.cell? ((a.add (i * 19)).add j) = some x := by
     intro i hi
     have he := hel i hi
     rw [atCells, List.getElem?_eq_getElem (by omega)] at he
     obtain ⟨cs', hc, ht⟩ := Option.bind_eq_some_iff.1 he
     obtain ⟨h, v, l, t, rfl, hT⟩ := (ih n (by omega)).1 _ _ ht
     obtain ⟨_, _, hcell⟩ := World.cells?_some hc
     refine ⟨h, v, l, t, hT, fun j x hv => ?_⟩
     have hj : j < 19 := by
      rcases Nat.lt_or_ge j 19 with h | h
      ·exact h
      ·rw [List.getElem?_eq_none (by simpa [acells] using h)] at hv; cases hv
     rw [hcell j hj, hv]
    have each' : ∀ i, ∃ r : V × AT, i < len → AtIs w r.2.h r.1 r.2.ks.length r.2 ∧ ∀ j x, (acells r.2.h r.1 r.2.ks.length)[j]? = some x → w.cell? ((a.add (i * 19)).add j) = some x := by
     intro i
     by_cases hi : i < len
     ·obtain ⟨h, v, l, t, hT, hc⟩ := each i hi
      have e1 := hT.head
      have e2 := hT.len
      subst e1 e2
      exact ⟨(v, t), fun _ => ⟨hT, hc⟩⟩
     ·exact ⟨(v0, .node hd0 []), fun h => absurd h hi⟩
    obtain ⟨R, hR⟩ := Classical.axiomOfChoice each'
    obtain ⟨F, hFd⟩ : ∃ F : Nat → AT, F = fun i => (R i).2 := ⟨_, rfl⟩
    obtain ⟨Q, hQd⟩ : ∃ Q : Nat → V, Q = fun i => (R i).1 := ⟨_, rfl⟩
    have hF : ∀ i, i < len → AtIs w (F i).h (Q i) (F i).ks.length (F i) ∧ ∀ j x, (acells (F i).h (Q i) (F i).ks.length)[j]? = some x → w.cell? ((a.add (i * 19)).add j) = some x := by
     subst hFd hQd
     exact hR
    have hlen' : ((List.range len).map F).length = len := by simp
    have hget : ∀ i, i < len → tget ((List.range len).map F) i = F i := by
     intro i hi
     unfold tget
     rw [List.getD_eq_getElem?_getD, List.getElem?_map, List.getElem?_range hi]
     rfl
    refine ⟨some a, len, cap, (List.range len).map F, rfl, hlen', hl, hm, ?_⟩
    by_cases h0 : len = 0
    ·subst h0; exact .nokids _
    ·obtain ⟨b, o, s⟩ := a
     have h1 := (hF 0 (by omega)).2 0 _ rfl
     have hs : s = none := by
      have := World.cell?_spot h1
      simpa [Addr.add] using this
     subst hs
     refine .atkids b o _ Q (fun i hi => ?_) (fun i hi j x hv => ?_) (fun i hi => ?_) (fun i hi => ?_)
     ·rw [hlen'] at hi; rw [hget i hi]; exact (hF i hi).1.ok
     ·rw [hlen'] at hi; rw [hget i hi] at hv
      have := (hF i hi).2 j x hv
      rw [Addr.add_lit, Addr.add_lit] at this
      exact this
     ·rw [hlen'] at hi; rw [hget i hi]; exact (hF i hi).1.cap
     ·rw [hlen'] at hi; rw [hget i hi]; exact (hF i hi).1.kids

theorem open_at {fuel : Nat} {cs : Array Value} {y : DataW H × List MemPlace} (h : DataW.trod enc Tryz.prog w base sp held fuel 31 (Value.agg cs).cells.toList = some y) :
  ∃ h v l t, cs = (acells h v l).toArray ∧ AtIs w h v l t := by
 obtain ⟨hd, v, l, t, hc, hT⟩ := (open_all fuel).1 _ _ h
 refine ⟨hd, v, l, t, ?_, hT⟩
 have h1 : cs.toList = acells hd v l := hc
 exact Array.toList_inj.1 h1
def IsAts (w : World) (a : Option Addr) (len cap : Nat) (ts : List AT) : Prop := ts.length = len ∧ len ≤ cap ∧ cap ≤ maxLen ∧ Kids w a ts
theorem open_ats {fuel : Nat} {a : Option Addr} {len cap : Nat} {y : DataW H × List MemPlace} (h : DataW.trod enc Tryz.prog w base sp held fuel 29 (Value.slice a len cap).cells.toList = some y) : ∃ ts, IsAts w a len cap ts := by
 obtain ⟨p, l, c, ts, hc, h1, h2, h3, h4⟩ := (open_all fuel).2 _ _ h
 have h5 : [Value.slice a len cap] = [.slice p l c] := hc
 injection h5 with h5
 injection h5 with e1 e2 e3
 subst e1 e2 e3
 exact ⟨ts, h1, h2, h3, h4⟩
end
end Aterm
end Go.Proofs.YtkfkpjngiffamaaGreatDoor

namespace Go.Proofs.YtkfkpjngiffamaaGreatDoor
open Go.RowKit
set_option linter.unusedVariables false
set_option linter.unusedSimpArgs false
namespace Effect

theorem Row.cell {B n c : Nat} {W : World} {a : Option Addr} {l : List At} (h : Row B W (.slice a n c) l) {j : Nat} (hj : j < l.length) : ∃ g, a = some ⟨g, 0, none⟩ ∧ B ≤ g ∧ g < W.heap.size ∧ (W.cell? ⟨g, j * 3, none⟩ = some (.int .u8 (aget l j).k) ∧ W.cell? ⟨g, j * 3 + 1, none⟩ = some (.int .i64 (aget l j).r) ∧ W.cell? ⟨g, j * 3 + 2, none⟩ = some (.string (aget l j).x)) ∧ W.frozen? ⟨g, j * 3 + 1, none⟩ = false := by
 rcases h.2 with ⟨_, h0⟩ | ⟨g, cap, cur, hv, hb, hg, h1, h2, h3, h4⟩
 ·omega
 ·injection hv with hv1 hv2 hv3
  subst hv1
  have key : ∀ i, i < 3 → ∀ u, (enc (aget l j))[i]? = some u → W.cell? ⟨g, j * 3 + i, none⟩ = some u := fun i hi u hu => by
   have := h.cells (g := g) rfl (j * 3 + i) u (by rw [flat_get l j hj i hi]; exact hu)
   rw [Addr.add_lit] at this
   simpa using this
  refine ⟨g, rfl, hb, lt_of_block hg, ⟨key 0 (by omega) _ rfl, key 1 (by omega) _ rfl, key 2 (by omega) _ rfl⟩, ?_⟩
  simp [World.frozen?, hg]
theorem flat_set (l : List At) (j : Nat) (r : Int) (hj : j < l.length) : flat (l.set j { aget l j with r := r }) = (flat l).set (j * 3 + 1) (.int .i64 r) := by
 apply List.ext_getElem?
 intro t
 by_cases ht : t < l.length * 3
 ·have e := flat_get (l.set j { aget l j with r := r }) (t / 3) (by rw [List.length_set]; omega) (t % 3) (Nat.mod_lt t (by omega))
  rw [show t / 3 * 3 + t % 3 = t by omega] at e
  rw [e]
  have e2 := flat_get l (t / 3) (by omega) (t % 3) (Nat.mod_lt t (by omega))
  rw [show t / 3 * 3 + t % 3 = t by omega] at e2
  rw [List.getElem?_set]
  by_cases hq : t / 3 = j
  ·have ea : aget (l.set j { aget l j with r := r }) (t / 3) = { aget l j with r := r } := by
    unfold aget; rw [List.getD_eq_getElem?_getD, List.getElem?_set, if_pos hq.symm, if_pos hj]; rfl
   rw [ea]
   by_cases h1 : j * 3 + 1 = t
   ·rw [if_pos h1, if_pos (by rw [flat_len]; omega), show t % 3 = 1 by omega]; rfl
   ·rw [if_neg h1, e2, hq]
    rcases (by omega : t % 3 = 0 ∨ t % 3 = 2) with q | q <;> rw [q] <;> rfl
  ·have ea : aget (l.set j { aget l j with r := r }) (t / 3) = aget l (t / 3) := by
    unfold aget; rw [List.getD_eq_getElem?_getD, List.getElem?_set, if_neg (fun e => hq e.symm), List.getD_eq_getElem?_getD]
   rw [ea, if_neg (by omega), e2]
 ·rw [List.getElem?_eq_none (by rw [flat_len, List.length_set]; omega), List.getElem?_eq_none (by rw [List.length_set, flat_len]; omega)]
theorem Row.set {B n c g : Nat} {W : World} {l : List At} (h : Row B W (.slice (some ⟨g, 0, none⟩) n c) l) {j : Nat} (hj : j < l.length) (r : Int) : Row B (W.setCell ⟨g, j * 3 + 1, none⟩ (.int .i64 r)) (.slice (some ⟨g, 0, none⟩) n c) (l.set j { aget l j with r := r }) := by
 rcases h.2 with ⟨_, h0⟩ | ⟨g', cap, cur, hv, hb, hg, h1, h2, h3, h4⟩
 ·omega
 ·injection hv with hv1 hv2 hv3
  injection hv1 with hv1; injection hv1 with hv1
  subst hv1 hv3
  refine ⟨by rw [flat_len], .inr ⟨g, c, cur.setIfInBounds (j * 3 + 1) (.int .i64 r), by rw [List.length_set, hv2], hb, heap_setCell_same W g (j * 3 + 1) cur _ _ hg, by rw [List.length_set]; exact h1, h2, by simpa using h3, ?_⟩⟩
  rw [flat_set l j r hj, List.length_set, Array.toList_setIfInBounds, List.take_set, h4]
end Effect
end Go.Proofs.YtkfkpjngiffamaaGreatDoor
namespace Go.Proofs.YtkfkpjngiffamaaGreatDoor
open Go.RowKit Go.Sort Go.Shelf Go.Lib
set_option linter.unusedVariables false
set_option linter.unusedSimpArgs false
namespace Effect

structure RdS (w : World) (n : Nat) (p : Option Addr) (l : List ByteArray) : Prop where
 len : l.length = n
 at_ : l = [] ∨ ∃ b o, p = some ⟨b, o, none⟩ ∧ ∀ i, i < l.length → w.cell? ⟨b, o + i, none⟩ = some (.string (l.getD i ByteArray.empty))
theorem RdS.below {w W : World} {n : Nat} {p : Option Addr} {l : List ByteArray} (h : RdS w n p l) (hb : Below w.heap.size w W) : RdS W n p l := by
 refine ⟨h.len, h.at_.imp id ?_⟩
 rintro ⟨b, o, hp, hc⟩
 exact ⟨b, o, hp, fun i hi => (hb.cell (p := ⟨b, _, none⟩) (World.block_lt_of_cell? w _ (hc i hi))).trans (hc i hi)⟩
end Effect
end Go.Proofs.YtkfkpjngiffamaaGreatDoor
namespace Go.Proofs.YtkfkpjngiffamaaGreatDoor
open Go.RowKit
set_option linter.unusedVariables false
set_option linter.unusedSimpArgs false
namespace Effect

set_option maxHeartbeats 6400000 in
theorem refInts_walk {n c : Nat} {a : Option Addr} {l : List Int} {w : World} (h : RdI w n a l) (hn : n ≤ 100000) (x : Int) : Calls Tryz.prog 36 #[.slice a n c, .int .i64 x] w fun e w' => e = .returned (.bool (l.contains x)) ∧ w' = w := by
 have H := Lib.hid h
 clear h
 go_enter Tryz.func36, Tryz.ntmps36
 go_wp2_with (fail)
 go_loopw [5, 8] (fun _ i wr => ∃ j : Nat, j ≤ n ∧ i = .int .i64 (j : Int) ∧ Hid (wr = w) ∧ Hid (∀ i, i < j → nget l i ≠ x)) (fun _ i _ => n - (intOf i).toNat)
 case atStart => exact ⟨0, Nat.zero_le _, rfl, Lib.hid rfl, Lib.hid (fun i hi => absurd hi (Nat.not_lt_zero _))⟩
 case round =>
  obtain ⟨j, hj, rfl, HW, HA⟩ := hrel
  by_cases hlt : j < n
  ·have hjl : j < l.length := by rw [H.out.len]; exact hlt
   obtain ⟨b1, o1, rfl, e0⟩ := H.out.get j hjl
   rw [← HW.out] at e0
   by_cases hx : nget l j = x
   ·have HC := Lib.hid (show l.contains x = true by simp; rw [← hx]; exact nget_mem hjl)
    rw [hx] at e0
    have hxx : (x == x) = true := by simp
    clear hx hjl
    go_wp2_with (fail)
    go_ret
    exact ⟨ret_bool HC.out.symm, HW.out⟩
   ·have hxx : (nget l j == x) = false := by simpa using hx
    have HX := Lib.hid hx
    clear hx hjl
    go_wp2_with (fail)
    go_roundw
    case rel => exact ⟨j + 1, by omega, by go_num, HW, Lib.hid fun i hi => by
      by_cases e : i = j
      ·rw [e]; exact HX.out
      ·exact HA.out i (by omega)⟩
    case measure => simp [intOf]; omega
  ·obtain rfl : j = n := by omega
   have HC := Lib.hid (show l.contains x = false by
    rw [Bool.eq_false_iff]
    intro hc
    have hmem : x ∈ l := by simpa using hc
    obtain ⟨i, hi, e⟩ := List.mem_iff_getElem.1 hmem
    refine HA.out i (by rw [← H.out.len]; exact hi) ?_
    have := nget_at hi
    rw [List.getElem?_eq_getElem hi, e] at this
    exact (Option.some.inj this).symm)
   go_wp2_with (fail)
   go_ret
   exact ⟨ret_bool HC.out.symm, HW.out⟩
end Effect
end Go.Proofs.YtkfkpjngiffamaaGreatDoor
namespace Go.Proofs.YtkfkpjngiffamaaGreatDoor
open Go.RowKit
set_option linter.unusedVariables false
set_option linter.unusedSimpArgs false
namespace Effect

def intsV (l : List Int) : List Value := l.map (Value.int .i64)
def Ixs (B : Nat) (W : World) (v : Value) (n : Nat) (l : List Int) : Prop := W.ownsRow B 3 1 v n (intsV l)
theorem RdI.of_own {B n c : Nat} {W : World} {a : Option Addr} {l : List Int} (h : Ixs B W (.slice a n c) n l) (hok : ∀ x ∈ l, -9223372036854775808 ≤ x ∧ x ≤ 9223372036854775807) : RdI W n a l := by
 have hl : l.length = n := by have := h.1; unfold intsV at this; rw [List.length_map] at this; omega
 refine ⟨hl, ?_, hok⟩
 by_cases h0 : n = 0
 ·left; exact List.eq_nil_of_length_eq_zero (by omega)
 ·rcases h.2 with ⟨_, h0'⟩ | ⟨g, cap, cur, hv, hb, hg, h1, _⟩
  ·omega
  ·injection hv with hv1 hv2 hv3
   subst hv1
   refine .inr ⟨g, 0, rfl, fun i hi => ?_⟩
   have := h.cells (g := g) rfl i (.int .i64 (nget l i)) (by unfold intsV; rw [List.getElem?_map, nget_at hi]; rfl)
   rw [Addr.add_lit] at this
   exact this
end Effect
end Go.Proofs.YtkfkpjngiffamaaGreatDoor

namespace Go.Proofs.YtkfkpjngiffamaaGreatDoor
open Go.RowKit
set_option linter.unusedVariables false
set_option linter.unusedSimpArgs false
namespace Effect

structure RdR (w : World) (n : Nat) (p : Option Addr) (rs : List (List At)) : Prop where
 len : rs.length = n
 at_ : RowsAt w p rs
 ok : ∀ r ∈ rs, ∀ x ∈ r, x.x.size ≤ maxLen
 nn : ∀ r ∈ rs, r.length ≤ maxLen
theorem RdR.below {w W : World} {n : Nat} {p : Option Addr} {rs : List (List At)} (h : RdR w n p rs) (hb : Below w.heap.size w W) : RdR W n p rs := ⟨h.len, h.at_.below hb, h.ok, h.nn⟩
theorem RdR.row {w : World} {n : Nat} {p : Option Addr} {rs : List (List At)} (h : RdR w n p rs) (i : Nat) (hi : i < rs.length) : ∃ b o q c m, p = some ⟨b, o, none⟩ ∧ w.cell? ⟨b, o + i, none⟩ = some (.slice q m c) ∧ Rd w m q (rget rs i) ∧ m ≤ maxLen := by
 obtain ⟨b, o, q, c, hp, h1, h2⟩ := h.at_.get i hi
 exact ⟨b, o, q, c, _, hp, h1, ⟨rfl, h2, h.ok _ (rget_mem hi)⟩, h.nn _ (rget_mem hi)⟩
end Effect
end Go.Proofs.YtkfkpjngiffamaaGreatDoor
namespace Go.Proofs.YtkfkpjngiffamaaGreatDoor
open Go.RowKit
set_option linter.unusedVariables false
set_option linter.unusedSimpArgs false
namespace Effect

set_option maxRecDepth 100000 in
set_option maxHeartbeats 6400000 in
theorem equalInts_walk {n c m d : Nat} {a b : Option Addr} {l k : List Int} {w : World} (h : RdI w n a l) (h2 : RdI w m b k) (hn : n ≤ 100000) (hm : m ≤ 100000) (hlk : l = k) : Calls Tryz.prog 29 #[.slice a n c, .slice b m d] w fun e w' => e = .returned (.bool true) ∧ Below w.heap.size w w' := by
 have mixed : Tryz.prog.follows .mixedOrders = true := by kernel_rfl
 subst hlk
 obtain rfl : n = m := by rw [← h.len, ← h2.len]
 have H := Lib.hid h; have H2 := Lib.hid h2
 clear h h2
 go_enter Tryz.func29, Tryz.ntmps29
 go_wp2_with (fail)
 go_loopg [5, 13] n (fun gh _ i wr => ∃ j q : Nat, j ≤ n ∧ n - j ≤ gh ∧ i = .int .i64 (j : Int) ∧ wr = w.drewN q)
 case atStart => exact ⟨0, 0, Nat.zero_le _, by omega, rfl, rfl⟩
 case round =>
  obtain ⟨j, q, hj, hgh, rfl, rfl⟩ := hrel
  by_cases hlt : j < n
  ·have hjl : j < l.length := by rw [H.out.len]; exact hlt
   obtain ⟨b1, o1, rfl, e0⟩ := H.out.get j hjl
   obtain ⟨b2, o2, rfl, e1⟩ := H2.out.get j hjl
   generalize nget l j = x at *
   have hxx : (x == x) = true := by simp
   clear hjl
   go_wp2_with (fail)
   go_region_o
   clear hxx e0 e1
   go_wp2_with (fail)
   go_roundg (n - (j + 1))
   case measure => omega
   case rel => exact ⟨j + 1, q + 1, by omega, by omega, by go_num, rfl⟩
  ·go_wp2_with (fail)
   go_ret
   exact ⟨rfl, ⟨rfl, rfl, rfl, Nat.le_refl _, fun _ _ => rfl⟩⟩
end Effect
end Go.Proofs.YtkfkpjngiffamaaGreatDoor
