/-The walks of the program's Bare and of the document's. (Written by wip/tools/rtbare.py.) The walk of the document's text of a type with regions. (Written by wip/tools/rttyp.py.) -/
import Derived.Test.YtabegjpledammaaGreatDoorGC14
import Derived.Test.YtabegjpledammaaGreatDoorGC09
import Derived.Test.YtabegjpledammaaGreatDoorGC12
import Derived.Test.YtabegjpledammaaGreatDoorGC11
namespace Go.Proofs.YtabegjpledammaaGreatDoor
open Go.RowKit
set_option linter.unusedVariables false
set_option linter.unusedSimpArgs false
namespace Rt
open Effect (At AtOk AtsAt Rd ofA ret_i64 ret_bool lt_of_block heap_alloc_new)
open Types (tcells)

set_option maxRecDepth 100000 in
set_option maxHeartbeats 12800000 in
theorem bare_walk : ∀ (m : Nat) (t : RT) (h : Hd) (pe : Option Addr) (ne ce : Nat) (p : Option Addr) (l c : Nat) (w : World), wt t ≤ m → wt t ≤ 100000 → RtIs w h pe ne ce p l c t →
    Calls Tryz.prog 15 #[.agg #[.int .u8 h.k, .int .i64 h.r, .slice pe ne ce, .slice p l c]] w (Types.OfEnd h.k (bareK t.ks) w) := by
  intro m
  induction m with
  | zero => intro t h pe ne ce p l c w hm; have := wt_pos t; omega
  | succ m ih =>
    intro t h pe ne ce p l c w hm hmm hT
    obtain ⟨i0, hi0, hz0, hz1, hz2⟩ := info_parts Types.infoType
    have HI0 := Lib.hid hi0; have HZ0 := Lib.hid hz0; have HZ1 := Lib.hid hz1; have HZ2 := Lib.hid hz2
    have hwt := wt_ks t
    have hll : l ≤ 100000 := by have := wts_len t.ks; rw [hT.len] at this; omega
    have hst := bare_start w h pe ne ce p l c
    have hk0 := hT.ok.k
    have hend := fun us j a c0 W W' => bare_end (w := w) (h := h) (pe := pe) (ne := ne) (ce := ce) (p := p) (l := l) (c := c) (us := us) (j := j) (a := a) (c0 := c0) (W := W) (W' := W') hk0
    obtain ⟨k, v, e⟩ := h
    simp only at hst hend
    have HST := Lib.hid hst; have IH := Lib.hid ih; have HT := Lib.hid hT; have HM := Lib.hid (And.intro hm hmm); have HWT := Lib.hid hwt; have HEND := Lib.hid hend
    clear hst ih hT hm hmm hwt hi0 hz0 hz1 hz2 hend hk0
    go_enter Tryz.func15, Tryz.ntmps15
    go_wp2_with (fail)
    go_loopw [12] (fun i wr => ∃ (j : Nat) (a : Option Addr) (c0 : Nat), j ≤ l ∧ i = .int .i64 j ∧ Hid (BareAt w ⟨k, v, e⟩ pe ne ce p l c (bareK (t.ks.take j)) j a c0 wr)) (fun i _ => l - (intOf i).toNat)
    case atStart => exact ⟨0, none, 0, Nat.zero_le _, rfl, Lib.hid (by rw [List.take_zero]; exact HST.out)⟩
    case round =>
      obtain ⟨j, a, c0, hj, rfl, HA⟩ := hrel
      obtain ⟨⟨t0, t1, t2, t3⟩, -⟩ := cells4 HA.out.box
      obtain ⟨⟨o0, o1, o2⟩, _, _, f2⟩ := Types.cells3 HA.out.out
      by_cases hlt : j < l
      · have hjk : j < t.ks.length := by rw [HT.out.len]; exact hlt
        obtain ⟨bb, o, q, c', qe, ce', rfl, hkid0, z0, z1, z2, z3⟩ := (HT.out.kids.stay HA.out.below).get j hjk
        have hwk := wts_get hjk
        have hll2 := lt_of_block HA.out.out
        have hcall := IH.out (tget t.ks j) (tget t.ks j).h qe (tget t.ks j).h.e.length ce' q (tget t.ks j).ks.length c' (wr.alloc (.cells #[.int .u8 (tget t.ks j).h.k, .int .i64 (tget t.ks j).h.r, .slice qe (tget t.ks j).h.e.length ce', .slice q (tget t.ks j).ks.length c'] 25)).drew (by have := HM.out.1; have := HWT.out; omega) (by have := HM.out.2; have := HWT.out; omega) ((hkid0.below (box_new _)).below (Below.refl _ _).drew)
        obtain ⟨xs, hown, hflat⟩ := HA.out.row
        have hown' : wr.ownsRow (w.heap.size + 3) 37 3 (.slice a j c0) j xs := by rw [HA.out.len] at hown; exact hown
        have hrow := fun (W' : World) (hb : Below wr.heap.size wr W') (O : Obj) => (show (W'.alloc O).ownsRow (w.heap.size + 3) 37 3 (.slice a j c0) j xs ∧ Types.Flat (Types.veil (Types.seen (w.heap.size + 3) (.slice a j c0)) (W'.alloc O)) xs (bareK (t.ks.take j)) from
          ⟨Types.own_below hown' (hb.alloc hb.size O), hflat.reads (Types.veil_to fun b hbl hp => ⟨hp, (hb.alloc hb.size O).block b hbl⟩)⟩)
        have htk := take_tget t.ks j hjk
        have hbk := fun (W' : World) (hb : Below wr.heap.size wr W') => (show W'.cell? ⟨w.heap.size + 2, 2, none⟩ = some (.slice a j c0) ∧ W'.frozen? ⟨w.heap.size + 2, 2, none⟩ = false ∧ w.heap.size + 2 < W'.heap.size from by
          have := (hb.block _ (lt_of_block HA.out.out)).trans HA.out.out
          exact ⟨by simp [World.cell?, this], by simp [World.frozen?, this], lt_of_block this⟩)
        have HCALL := Lib.hid hcall; have HROW := Lib.hid hrow; have HTK := Lib.hid htk; have HBK := Lib.hid hbk
        have HL2 := Lib.hid hll2
        have j0 : (0 : Int) ≤ (j : Int) := by omega
        have j1 : (j : Int) < (l : Int) := by omega
        clear hcall hrow htk hbk hwk hkid0 hown hown' hflat hjk hll2
        have u0 := (HBK.out (wr.alloc (.cells #[.int .u8 (tget t.ks j).h.k, .int .i64 (tget t.ks j).h.r, .slice qe (tget t.ks j).h.e.length ce', .slice q (tget t.ks j).ks.length c'] 25)) (box_new _)).1
        have u1 := (HBK.out (wr.alloc (.cells #[.int .u8 (tget t.ks j).h.k, .int .i64 (tget t.ks j).h.r, .slice qe (tget t.ks j).h.e.length ce', .slice q (tget t.ks j).ks.length c'] 25)) (box_new _)).2.1
        have u2 := (HBK.out (wr.alloc (.cells #[.int .u8 (tget t.ks j).h.k, .int .i64 (tget t.ks j).h.r, .slice qe (tget t.ks j).h.e.length ce', .slice q (tget t.ks j).ks.length c'] 25)) (box_new _)).2.2
        have hbx : Below wr.heap.size wr (wr.alloc (.cells #[.int .u8 (tget t.ks j).h.k, .int .i64 (tget t.ks j).h.r, .slice qe (tget t.ks j).h.e.length ce', .slice q (tget t.ks j).ks.length c'] 25)) := box_new _
        have HBX := Lib.hid hbx
        obtain ⟨x0, x1, x2, x3⟩ := box4 (N := wr.heap.size) rfl (Below.refl (wr.alloc (.cells #[.int .u8 (tget t.ks j).h.k, .int .i64 (tget t.ks j).h.r, .slice qe (tget t.ks j).h.e.length ce', .slice q (tget t.ks j).ks.length c'] 25)).heap.size (wr.alloc (.cells #[.int .u8 (tget t.ks j).h.k, .int .i64 (tget t.ks j).h.r, .slice qe (tget t.ks j).h.e.length ce', .slice q (tget t.ks j).ks.length c'] 25)))
        clear hbx
        go_upto_region 5 with (fail)
        generalize hw1 : wr.alloc (.cells #[.int .u8 (tget t.ks j).h.k, .int .i64 (tget t.ks j).h.r, .slice qe (tget t.ks j).h.e.length ce', .slice q (tget t.ks j).ks.length c'] 25) = w1 at *
        clear z0 z1 z2 z3 t0 t1 t2 t3 o0 o1 o2 f2 hw1
        go_region_law (first
          | (go_simp; go_at_call 15; (with_reducible refine HCALL.out.mono ?_); rintro en w2 ⟨q2, c2, rfl, hT2, hb2d⟩; have hb2 : Below wr.heap.size wr w2 := below_then HBX.out (undrew' hb2d) HBX.out.size; have hm2 : wr.heap.size ≤ w1.drew.heap.size := HBX.out.size; obtain ⟨y0, y1, y2⟩ := HBK.out w2 hb2; have HT2 := Lib.hid hT2; have HB2 := Lib.hid hb2; have HM2 := Lib.hid hm2; clear hT2 hb2 hb2d hm2)
          | (obtain ⟨hr1, hr2⟩ := HROW.out w2 HB2.out (.cells #[.int .u8 (tget t.ks j).h.k, .int .i64 0, .slice q2 (bareK (tget t.ks j).ks).length c2] 37); have HR2 := Lib.hid hr2; refine step_append_lies _ (by rfl) _ _ _ (by rfl) (w.heap.size + 3) 37 i0 _ 3 40 Tryz.underlying35 HI0.out HZ0.out HZ1.out HZ2.out rfl (by omega) (.slice a j c0) j xs (by rfl) hr1 ⟨w2.heap.size, 0, none⟩ 1 1 (tcells ⟨(tget t.ks j).h.k, 0⟩ q2 (bareK (tget t.ks j).ks).length c2) (by rfl) (by rfl) (new3 rfl) (Types.cells_one _ _ _ _) (by omega) (by unfold maxLen; omega) (by omega) (by have := HB2.out.size; have := HL2.out; simp; omega) (w2.heap.size + 1) (by simp) ?_; intro gg cap w3 hown3 hgrow3 hat3 hlt3; obtain ⟨⟨s0, s1⟩, s2⟩ := bare_step HA.out HB2.out hr1 HR2.out HT2.out HM2.out hown3 hgrow3 (told_of hat3); have HS2 := Lib.hid s2; clear hown3 hgrow3 hat3 hlt3 hr1 hr2 s2 y0 y1 y2))
        all_goals
          go_wp2_with (fail)
          go_roundw
          case rel => exact ⟨j + 1, some ⟨gg, 0, none⟩, cap, by omega, by go_num, Lib.hid (by rw [HTK.out, bareK_snoc, bareT_eq]; exact HS2.out)⟩
          case measure => simp [intOf]; omega
      · obtain rfl : j = l := by omega
        obtain ⟨⟨r0, r1, r2⟩, g0, g1, g2⟩ := Types.cells3 HA.out.res
        have hk := List.take_of_length_le (l := t.ks) (i := j) (by rw [HT.out.len]; exact Nat.le_refl _)
        have HKK := Lib.hid hk
        clear hk
        go_wp2_with (fail)
        refine bodyPost_ret (v := .agg #[.int .u8 k, .int .i64 0, .slice a j c0]) (by simp [results, Tryz.results15, go_sem, r0, r1, r2]) rfl ?_
        have ha := HA.out
        rw [HKK.out] at ha
        exact HEND.out _ _ _ _ _ _ ha (by simp [World.setCell]) (fun b hb => Types.set3_other _ _ _ _ _ hb) (ha.below.trans ((Types.set3_below _ _ _ (Nat.le_refl _)).mono (by omega)))

set_option maxRecDepth 100000 in
set_option maxHeartbeats 12800000 in
theorem refBare_walk : ∀ (m : Nat) (t : RT) (h : Hd) (pe : Option Addr) (ne ce : Nat) (p : Option Addr) (l c : Nat) (w : World), wt t ≤ m → wt t ≤ 100000 → RtIs w h pe ne ce p l c t →
    Calls Tryz.prog 16 #[.agg #[.int .u8 h.k, .int .i64 h.r, .slice pe ne ce, .slice p l c]] w (Types.OfEnd h.k (bareK t.ks) w) := by
  intro m
  induction m with
  | zero => intro t h pe ne ce p l c w hm; have := wt_pos t; omega
  | succ m ih =>
    intro t h pe ne ce p l c w hm hmm hT
    obtain ⟨i0, hi0, hz0, hz1, hz2⟩ := info_parts Types.infoType
    have HI0 := Lib.hid hi0; have HZ0 := Lib.hid hz0; have HZ1 := Lib.hid hz1; have HZ2 := Lib.hid hz2
    have hwt := wt_ks t
    have hll : l ≤ 100000 := by have := wts_len t.ks; rw [hT.len] at this; omega
    have hst := bare_start w h pe ne ce p l c
    have hk0 := hT.ok.k
    have hend := fun us j a c0 W W' => bare_end (w := w) (h := h) (pe := pe) (ne := ne) (ce := ce) (p := p) (l := l) (c := c) (us := us) (j := j) (a := a) (c0 := c0) (W := W) (W' := W') hk0
    obtain ⟨k, v, e⟩ := h
    simp only at hst hend
    have HST := Lib.hid hst; have IH := Lib.hid ih; have HT := Lib.hid hT; have HM := Lib.hid (And.intro hm hmm); have HWT := Lib.hid hwt; have HEND := Lib.hid hend
    clear hst ih hT hm hmm hwt hi0 hz0 hz1 hz2 hend hk0
    go_enter Tryz.func16, Tryz.ntmps16
    go_wp2_with (fail)
    go_loopw [11] (fun i wr => ∃ (j : Nat) (a : Option Addr) (c0 : Nat), j ≤ l ∧ i = .int .i64 j ∧ Hid (BareAt w ⟨k, v, e⟩ pe ne ce p l c (bareK (t.ks.take j)) j a c0 wr)) (fun i _ => l - (intOf i).toNat)
    case atStart => exact ⟨0, none, 0, Nat.zero_le _, rfl, Lib.hid (by rw [List.take_zero]; exact HST.out)⟩
    case round =>
      obtain ⟨j, a, c0, hj, rfl, HA⟩ := hrel
      obtain ⟨⟨t0, t1, t2, t3⟩, -⟩ := cells4 HA.out.box
      obtain ⟨⟨o0, o1, o2⟩, _, _, f2⟩ := Types.cells3 HA.out.out
      by_cases hlt : j < l
      · have hjk : j < t.ks.length := by rw [HT.out.len]; exact hlt
        obtain ⟨bb, o, q, c', qe, ce', rfl, hkid0, z0, z1, z2, z3⟩ := (HT.out.kids.stay HA.out.below).get j hjk
        have hwk := wts_get hjk
        have hll2 := lt_of_block HA.out.out
        have hcall := IH.out (tget t.ks j) (tget t.ks j).h qe (tget t.ks j).h.e.length ce' q (tget t.ks j).ks.length c' wr.drew (by have := HM.out.1; have := HWT.out; omega) (by have := HM.out.2; have := HWT.out; omega) (hkid0.below (Below.refl _ _).drew)
        obtain ⟨xs, hown, hflat⟩ := HA.out.row
        have hown' : wr.ownsRow (w.heap.size + 3) 37 3 (.slice a j c0) j xs := by rw [HA.out.len] at hown; exact hown
        have hrow := fun (W' : World) (hb : Below wr.heap.size wr W') (O : Obj) => (show (W'.alloc O).ownsRow (w.heap.size + 3) 37 3 (.slice a j c0) j xs ∧ Types.Flat (Types.veil (Types.seen (w.heap.size + 3) (.slice a j c0)) (W'.alloc O)) xs (bareK (t.ks.take j)) from
          ⟨Types.own_below hown' (hb.alloc hb.size O), hflat.reads (Types.veil_to fun b hbl hp => ⟨hp, (hb.alloc hb.size O).block b hbl⟩)⟩)
        have htk := take_tget t.ks j hjk
        have hbk := fun (W' : World) (hb : Below wr.heap.size wr W') => (show W'.cell? ⟨w.heap.size + 2, 2, none⟩ = some (.slice a j c0) ∧ W'.frozen? ⟨w.heap.size + 2, 2, none⟩ = false ∧ w.heap.size + 2 < W'.heap.size from by
          have := (hb.block _ (lt_of_block HA.out.out)).trans HA.out.out
          exact ⟨by simp [World.cell?, this], by simp [World.frozen?, this], lt_of_block this⟩)
        have HCALL := Lib.hid hcall; have HROW := Lib.hid hrow; have HTK := Lib.hid htk; have HBK := Lib.hid hbk
        have HL2 := Lib.hid hll2
        have j0 : (0 : Int) ≤ (j : Int) := by omega
        have j1 : (j : Int) < (l : Int) := by omega
        clear hcall hrow htk hbk hwk hkid0 hown hown' hflat hjk hll2
        have HBX := Lib.hid (Below.refl wr.heap.size wr)
        go_upto_region 5 with (fail)
        clear t0 t1 t2 o0 o1
        go_region_law (first
          | (go_simp; go_at_call 16; (with_reducible refine HCALL.out.mono ?_); rintro en w2 ⟨q2, c2, rfl, hT2, hb2d⟩; have hb2 : Below wr.heap.size wr w2 := below_then HBX.out (undrew' hb2d) HBX.out.size; have hm2 : wr.heap.size ≤ wr.drew.heap.size := HBX.out.size; obtain ⟨y0, y1, y2⟩ := HBK.out w2 hb2; have HT2 := Lib.hid hT2; have HB2 := Lib.hid hb2; have HM2 := Lib.hid hm2; clear hT2 hb2 hb2d hm2)
          | (obtain ⟨hr1, hr2⟩ := HROW.out w2 HB2.out (.cells #[.int .u8 (tget t.ks j).h.k, .int .i64 0, .slice q2 (bareK (tget t.ks j).ks).length c2] 37); have HR2 := Lib.hid hr2; refine step_append_lies _ (by rfl) _ _ _ (by rfl) (w.heap.size + 3) 37 i0 _ 3 40 Tryz.underlying35 HI0.out HZ0.out HZ1.out HZ2.out rfl (by omega) (.slice a j c0) j xs (by rfl) hr1 ⟨w2.heap.size, 0, none⟩ 1 1 (tcells ⟨(tget t.ks j).h.k, 0⟩ q2 (bareK (tget t.ks j).ks).length c2) (by rfl) (by rfl) (new3 rfl) (Types.cells_one _ _ _ _) (by omega) (by unfold maxLen; omega) (by omega) (by have := HB2.out.size; have := HL2.out; simp; omega) (w2.heap.size + 1) (by simp) ?_; intro gg cap w3 hown3 hgrow3 hat3 hlt3; obtain ⟨⟨s0, s1⟩, s2⟩ := bare_step HA.out HB2.out hr1 HR2.out HT2.out HM2.out hown3 hgrow3 (told_of hat3); have HS2 := Lib.hid s2; clear hown3 hgrow3 hat3 hlt3 hr1 hr2 s2 y0 y1 y2))
        all_goals
          go_wp2_with (fail)
          go_roundw
          case rel => exact ⟨j + 1, some ⟨gg, 0, none⟩, cap, by omega, by go_num, Lib.hid (by rw [HTK.out, bareK_snoc, bareT_eq]; exact HS2.out)⟩
          case measure => simp [intOf]; omega
      · obtain rfl : j = l := by omega
        obtain ⟨⟨r0, r1, r2⟩, g0, g1, g2⟩ := Types.cells3 HA.out.res
        have hk := List.take_of_length_le (l := t.ks) (i := j) (by rw [HT.out.len]; exact Nat.le_refl _)
        have HKK := Lib.hid hk
        clear hk
        go_wp2_with (fail)
        refine bodyPost_ret (v := .agg #[.int .u8 k, .int .i64 0, .slice a j c0]) (by simp [results, Tryz.results16, go_sem, r0, r1, r2]) rfl ?_
        have ha := HA.out
        rw [HKK.out] at ha
        exact HEND.out _ _ _ _ _ _ ha (by simp [World.setCell]) (fun b hb => Types.set3_other _ _ _ _ _ hb) (ha.below.trans ((Types.set3_below _ _ _ (Nat.le_refl _)).mono (by omega)))
end Rt
end Go.Proofs.YtabegjpledammaaGreatDoor
namespace Go.Proofs.YtabegjpledammaaGreatDoor
open Go.RowKit
set_option linter.unusedVariables false
set_option linter.unusedSimpArgs false
namespace Rt
open Effect (At AtOk AtsAt Rd ofA ret_i64 ret_bool lt_of_block heap_alloc_new textE digs add_run)
open Types (jb jb_list bl bl_append bl_inj bl_app bl_cons bl_one jb_one wInt wOpen wShut wStar wRef wArrow)

def TextIs (w0 : World) (m : Nat) : Prop := ∀ (t : RT) (h : Hd) (pe : Option Addr) (ne ce : Nat) (p : Option Addr) (l c : Nat) (w : World), wt t ≤ m → mayT t = true → allT (effB 1000) t = true → (jb (wordsT t)).size ≤ 100000000 → RtIs w0 h pe ne ce p l c t → Below w0.heap.size w0 w →
  Calls Tryz.prog 17 #[.agg #[.int .u8 h.k, .int .i64 h.r, .slice pe ne ce, .slice p l c]] w fun e w' => e = .returned (.string (jb (wordsT t))) ∧ Below w.heap.size w w'
set_option maxRecDepth 100000 in
set_option maxHeartbeats 6400000 in
theorem ref_1 (w0 : World) (m : Nat) (hT : TextIs w0 m) (t : RT) (v : Int) (e : List At) (pe : Option Addr) (ne ce : Nat) (p : Option Addr) (l c : Nat) (w : World) (hm : wt t ≤ m + 1) (hok : mayT t = true) (hef : allT (effB 1000) t = true) (hsz : (jb (wordsT t)).size ≤ 100000000) (hI : RtIs w0 ⟨1, v, e⟩ pe ne ce p l c t) (hb : Below w0.heap.size w0 w) :
    Calls Tryz.prog 17 #[.agg #[.int .u8 1, .int .i64 v, .slice pe ne ce, .slice p l c]] w fun e w' => e = .returned (.string (jb (wordsT t))) ∧ Below w.heap.size w w' := by
  have ew : wordsT t = [wInt] := by rw [wordsT_eq, hI.head]; rfl
  rw [ew, jb_one]
  clear hT hI hb ew hok hsz hef
  go_enter Tryz.func17, Tryz.ntmps17
  go_wp2_with (fail)
  go_ret
  exact ⟨rfl, box_new _⟩

set_option maxRecDepth 100000 in
set_option maxHeartbeats 6400000 in
theorem ref_2 (w0 : World) (m : Nat) (hT : TextIs w0 m) (t : RT) (v : Int) (e : List At) (pe : Option Addr) (ne ce : Nat) (p : Option Addr) (l c : Nat) (w : World) (hm : wt t ≤ m + 1) (hok : mayT t = true) (hef : allT (effB 1000) t = true) (hsz : (jb (wordsT t)).size ≤ 100000000) (hI : RtIs w0 ⟨2, v, e⟩ pe ne ce p l c t) (hb : Below w0.heap.size w0 w) :
    Calls Tryz.prog 17 #[.agg #[.int .u8 2, .int .i64 v, .slice pe ne ce, .slice p l c]] w fun e w' => e = .returned (.string (jb (wordsT t))) ∧ Below w.heap.size w w' := by
  have hlen := hI.len
  have hnode := (may_node hok).1
  rw [hI.head] at hnode
  have hcap := hI.cap
  have hef2 := hef
  rw [allT_eq, Bool.and_eq_true, hI.head] at hef2
  have hv1 := hI.ok.r
  simp only at hv1
  obtain rfl : l = 2 := by simp at hnode; omega
  obtain ⟨b, o, rfl, hk⟩ := kid_at hI (by omega)
  obtain ⟨qe0, de0, q0, d0, hI0, hc0⟩ := hk 0 (by omega)
  have ok0 := may_kid hok (i := 0) (by omega)
  have ef0 := allK_get _ (j := 0) (by omega) hef2.2
  have ne0 := words_nil ok0
  rw [show o + 0 * 4 = o from by omega] at hc0
  obtain ⟨qe1, de1, q1, d1, hI1, hc1⟩ := hk 1 (by omega)
  have ok1 := may_kid hok (i := 1) (by omega)
  have ef1 := allK_get _ (j := 1) (by omega) hef2.2
  have ne1 := words_nil ok1
  rw [show o + 1 * 4 = o + 4 from by omega] at hc1
  have hww := wt2 (t := t) (by omega)
  have hkd0 := kw_get (show 0 < t.ks.length by omega)
  have hkd1 := kw_get (show 1 < t.ks.length by omega)
  have ew : jb (wordsT t) = (((((⟨#[40, 32]⟩ : ByteArray) ++ jb (wordsT (tget t.ks 0))) ++ (⟨#[32, 42, 32]⟩ : ByteArray)) ++ jb (wordsT (tget t.ks 1))) ++ (((⟨#[32, 64, 32]⟩ : ByteArray) ++ digs v) ++ (⟨#[32, 41]⟩ : ByteArray))) := by
    rw [wordsT_eq, hI.head]
    unfold comb
    apply bl_inj
    simp [hkd0, hkd1, bl_append, bl_app, bl_cons, bl_one, List.append_assoc, ne0, ne1]
    try simp [bl, wOpen, wShut, wStar, wRef, wArrow, wAt, wBang]
  rw [ew] at hsz ⊢
  simp only [ByteArray.size_append] at hsz
  have hz1 := add_run (⟨#[32, 64, 32]⟩ : ByteArray) (digs v) _ rfl (by simp only [ByteArray.size_append]; omega)
  have hz2 := add_run ((⟨#[32, 64, 32]⟩ : ByteArray) ++ digs v) (⟨#[32, 41]⟩ : ByteArray) _ rfl (by simp only [ByteArray.size_append]; omega)
  have ha0 := add_run ((⟨#[40, 32]⟩ : ByteArray)) (jb (wordsT (tget t.ks 0))) _ rfl (by simp only [ByteArray.size_append]; omega)
  have ha1 := add_run (((⟨#[40, 32]⟩ : ByteArray) ++ jb (wordsT (tget t.ks 0)))) ((⟨#[32, 42, 32]⟩ : ByteArray)) _ rfl (by simp only [ByteArray.size_append]; omega)
  have ha2 := add_run ((((⟨#[40, 32]⟩ : ByteArray) ++ jb (wordsT (tget t.ks 0))) ++ (⟨#[32, 42, 32]⟩ : ByteArray))) (jb (wordsT (tget t.ks 1))) _ rfl (by simp only [ByteArray.size_append]; omega)
  have ha3 := add_run (((((⟨#[40, 32]⟩ : ByteArray) ++ jb (wordsT (tget t.ks 0))) ++ (⟨#[32, 42, 32]⟩ : ByteArray)) ++ jb (wordsT (tget t.ks 1)))) ((((⟨#[32, 64, 32]⟩ : ByteArray) ++ digs v) ++ (⟨#[32, 41]⟩ : ByteArray))) _ rfl (by simp only [ByteArray.size_append]; omega)
  have hp0 := fun W hb => hT (tget t.ks 0) _ qe0 _ de0 q0 _ d0 W (by omega) ok0 ef0 (by omega) hI0 hb
  have hp1 := fun W hb => hT (tget t.ks 1) _ qe1 _ de1 q1 _ d1 W (by omega) ok1 ef1 (by omega) hI1 hb
  have hdg := fun O => Effect.refDigits_walk v hv1.1 hv1.2 (w.alloc O)
  have hdv : (⟨(Lib.itoa v).toArray⟩ : ByteArray) = digs v := rfl
  rw [hdv] at hdg
  have hX : ∀ W, Below (w.alloc (.cells #[.int .u8 2, .int .i64 v, .slice pe ne ce, .slice (some ⟨b, o, none⟩) 2 c] 25)).heap.size (w.alloc (.cells #[.int .u8 2, .int .i64 v, .slice pe ne ce, .slice (some ⟨b, o, none⟩) 2 c] 25)) W → W.cell? ⟨w.heap.size, 0, none⟩ = some (.int .u8 2) ∧ W.cell? ⟨w.heap.size, 1, none⟩ = some (.int .i64 v) ∧ W.cell? ⟨w.heap.size, 2, none⟩ = some (.slice pe ne ce) ∧ W.cell? ⟨w.heap.size, 3, none⟩ = some (.slice (some ⟨b, o, none⟩) 2 c) := fun W hb => box4 rfl hb
  have hcl : c ≤ 9223372036854775807 := hcap.2
  have hcq := hcap.1
  have HB := Lib.hid hb; have HX := Lib.hid hX; have HD := Lib.hid hdg; have HP0 := Lib.hid hp0; have HC0 := Lib.hid hc0; have HP1 := Lib.hid hp1; have HC1 := Lib.hid hc1
  clear hb hX hT hI hok hm hlen hnode hcap hk hww hsz ew hdg hdv hef hef2 hv1 hkd0 hp0 hc0 hI0 ok0 ef0 ne0 hkd1 hp1 hc1 hI1 ok1 ef1 ne1
  generalize digs v = dv at *
  generalize jb (wordsT (tget t.ks 0)) = J0 at *
  generalize jb (wordsT (tget t.ks 1)) = J1 at *
  generalize ((⟨#[32, 64, 32]⟩ : ByteArray) ++ dv : ByteArray) = Z1 at *
  generalize (Z1 ++ (⟨#[32, 41]⟩ : ByteArray) : ByteArray) = Z2 at *
  generalize ((⟨#[40, 32]⟩ : ByteArray) ++ J0 : ByteArray) = X0 at *
  generalize (X0 ++ (⟨#[32, 42, 32]⟩ : ByteArray) : ByteArray) = X1 at *
  generalize (X1 ++ J1 : ByteArray) = X2 at *
  generalize (X2 ++ Z2 : ByteArray) = X3 at *
  go_enter Tryz.func17, Tryz.ntmps17
  go_wp2_with (fail)
  refine (HD.out _).mono ?_
  rintro en wz ⟨rfl, hbz⟩
  have HBZ := Lib.hid hbz
  obtain ⟨c0, c1, c2, c3⟩ := HX.out _ hbz
  have hbwz := below_row (Below.refl w.heap.size w) hbz (Nat.le_refl _)
  have HWZ := Lib.hid hbwz
  obtain ⟨a0, a1, a2, a3⟩ := HC0.out _ (HB.out.trans (hbwz.mono HB.out.size))
  clear hbz hbwz
  go_wp2_with (fail)
  refine (HP0.out _ (HB.out.trans (HWZ.out.mono HB.out.size))).mono ?_
  rintro en w1 ⟨rfl, hb1⟩
  have HB1 := Lib.hid (below_then HBZ.out hb1 HBZ.out.size)
  have HW1 := Lib.hid (below_then HWZ.out hb1 HWZ.out.size)
  clear hb1 c0 c1 c2 c3 a0 a1 a2 a3
  obtain ⟨c0, c1, c2, c3⟩ := HX.out _ HB1.out
  obtain ⟨g0, g1, g2, g3⟩ := HC1.out _ (HB.out.trans (HW1.out.mono HB.out.size))
  go_wp2_with (fail)
  refine (HP1.out _ (HB.out.trans (HW1.out.mono HB.out.size))).mono ?_
  rintro en w2 ⟨rfl, hb2⟩
  have HB2 := Lib.hid (below_then HB1.out hb2 HB1.out.size)
  have HW2 := Lib.hid (below_then HW1.out hb2 HW1.out.size)
  clear hb2 c0 c1 c2 c3 g0 g1 g2 g3
  obtain ⟨c0, c1, c2, c3⟩ := HX.out _ HB2.out
  go_wp2_with (fail)
  go_ret
  exact ⟨rfl, HW2.out⟩

set_option maxRecDepth 100000 in
set_option maxHeartbeats 6400000 in
theorem ref_3 (w0 : World) (m : Nat) (hT : TextIs w0 m) (t : RT) (v : Int) (e : List At) (pe : Option Addr) (ne ce : Nat) (p : Option Addr) (l c : Nat) (w : World) (hm : wt t ≤ m + 1) (hok : mayT t = true) (hef : allT (effB 1000) t = true) (hsz : (jb (wordsT t)).size ≤ 100000000) (hI : RtIs w0 ⟨3, v, e⟩ pe ne ce p l c t) (hb : Below w0.heap.size w0 w) :
    Calls Tryz.prog 17 #[.agg #[.int .u8 3, .int .i64 v, .slice pe ne ce, .slice p l c]] w fun e w' => e = .returned (.string (jb (wordsT t))) ∧ Below w.heap.size w w' := by
  have hlen := hI.len
  have hnode := (may_node hok).1
  rw [hI.head] at hnode
  have hcap := hI.cap
  have hef2 := hef
  rw [allT_eq, Bool.and_eq_true, hI.head] at hef2
  have hv1 := hI.ok.r
  simp only at hv1
  obtain rfl : l = 1 := by simp at hnode; omega
  obtain ⟨b, o, rfl, hk⟩ := kid_at hI (by omega)
  obtain ⟨qe0, de0, q0, d0, hI0, hc0⟩ := hk 0 (by omega)
  have ok0 := may_kid hok (i := 0) (by omega)
  have ef0 := allK_get _ (j := 0) (by omega) hef2.2
  have ne0 := words_nil ok0
  rw [show o + 0 * 4 = o from by omega] at hc0
  have hww := wt1 (t := t) (by omega)
  have hkd0 := kw_get (show 0 < t.ks.length by omega)
  have ew : jb (wordsT t) = (((⟨#[40, 32, 114, 101, 102, 32]⟩ : ByteArray) ++ jb (wordsT (tget t.ks 0))) ++ (((⟨#[32, 64, 32]⟩ : ByteArray) ++ digs v) ++ (⟨#[32, 41]⟩ : ByteArray))) := by
    rw [wordsT_eq, hI.head]
    unfold comb
    apply bl_inj
    simp [hkd0, bl_append, bl_app, bl_cons, bl_one, List.append_assoc, ne0]
    try simp [bl, wOpen, wShut, wStar, wRef, wArrow, wAt, wBang]
  rw [ew] at hsz ⊢
  simp only [ByteArray.size_append] at hsz
  have hz1 := add_run (⟨#[32, 64, 32]⟩ : ByteArray) (digs v) _ rfl (by simp only [ByteArray.size_append]; omega)
  have hz2 := add_run ((⟨#[32, 64, 32]⟩ : ByteArray) ++ digs v) (⟨#[32, 41]⟩ : ByteArray) _ rfl (by simp only [ByteArray.size_append]; omega)
  have ha0 := add_run ((⟨#[40, 32, 114, 101, 102, 32]⟩ : ByteArray)) (jb (wordsT (tget t.ks 0))) _ rfl (by simp only [ByteArray.size_append]; omega)
  have ha1 := add_run (((⟨#[40, 32, 114, 101, 102, 32]⟩ : ByteArray) ++ jb (wordsT (tget t.ks 0)))) ((((⟨#[32, 64, 32]⟩ : ByteArray) ++ digs v) ++ (⟨#[32, 41]⟩ : ByteArray))) _ rfl (by simp only [ByteArray.size_append]; omega)
  have hp0 := fun W hb => hT (tget t.ks 0) _ qe0 _ de0 q0 _ d0 W (by omega) ok0 ef0 (by omega) hI0 hb
  have hdg := fun O => Effect.refDigits_walk v hv1.1 hv1.2 (w.alloc O)
  have hdv : (⟨(Lib.itoa v).toArray⟩ : ByteArray) = digs v := rfl
  rw [hdv] at hdg
  have hX : ∀ W, Below (w.alloc (.cells #[.int .u8 3, .int .i64 v, .slice pe ne ce, .slice (some ⟨b, o, none⟩) 1 c] 25)).heap.size (w.alloc (.cells #[.int .u8 3, .int .i64 v, .slice pe ne ce, .slice (some ⟨b, o, none⟩) 1 c] 25)) W → W.cell? ⟨w.heap.size, 0, none⟩ = some (.int .u8 3) ∧ W.cell? ⟨w.heap.size, 1, none⟩ = some (.int .i64 v) ∧ W.cell? ⟨w.heap.size, 2, none⟩ = some (.slice pe ne ce) ∧ W.cell? ⟨w.heap.size, 3, none⟩ = some (.slice (some ⟨b, o, none⟩) 1 c) := fun W hb => box4 rfl hb
  have hcl : c ≤ 9223372036854775807 := hcap.2
  have hcq := hcap.1
  have HB := Lib.hid hb; have HX := Lib.hid hX; have HD := Lib.hid hdg; have HP0 := Lib.hid hp0; have HC0 := Lib.hid hc0
  clear hb hX hT hI hok hm hlen hnode hcap hk hww hsz ew hdg hdv hef hef2 hv1 hkd0 hp0 hc0 hI0 ok0 ef0 ne0
  generalize digs v = dv at *
  generalize jb (wordsT (tget t.ks 0)) = J0 at *
  generalize ((⟨#[32, 64, 32]⟩ : ByteArray) ++ dv : ByteArray) = Z1 at *
  generalize (Z1 ++ (⟨#[32, 41]⟩ : ByteArray) : ByteArray) = Z2 at *
  generalize ((⟨#[40, 32, 114, 101, 102, 32]⟩ : ByteArray) ++ J0 : ByteArray) = X0 at *
  generalize (X0 ++ Z2 : ByteArray) = X1 at *
  go_enter Tryz.func17, Tryz.ntmps17
  go_wp2_with (fail)
  refine (HD.out _).mono ?_
  rintro en wz ⟨rfl, hbz⟩
  have HBZ := Lib.hid hbz
  obtain ⟨c0, c1, c2, c3⟩ := HX.out _ hbz
  have hbwz := below_row (Below.refl w.heap.size w) hbz (Nat.le_refl _)
  have HWZ := Lib.hid hbwz
  obtain ⟨a0, a1, a2, a3⟩ := HC0.out _ (HB.out.trans (hbwz.mono HB.out.size))
  clear hbz hbwz
  go_wp2_with (fail)
  refine (HP0.out _ (HB.out.trans (HWZ.out.mono HB.out.size))).mono ?_
  rintro en w1 ⟨rfl, hb1⟩
  have HB1 := Lib.hid (below_then HBZ.out hb1 HBZ.out.size)
  have HW1 := Lib.hid (below_then HWZ.out hb1 HWZ.out.size)
  clear hb1 c0 c1 c2 c3 a0 a1 a2 a3
  obtain ⟨c0, c1, c2, c3⟩ := HX.out _ HB1.out
  go_wp2_with (fail)
  go_ret
  exact ⟨rfl, HW1.out⟩

set_option maxRecDepth 100000 in
set_option maxHeartbeats 6400000 in
theorem ref_4 (w0 : World) (m : Nat) (hT : TextIs w0 m) (t : RT) (v : Int) (e : List At) (pe : Option Addr) (ne ce : Nat) (p : Option Addr) (l c : Nat) (w : World) (hm : wt t ≤ m + 1) (hok : mayT t = true) (hef : allT (effB 1000) t = true) (hsz : (jb (wordsT t)).size ≤ 100000000) (hI : RtIs w0 ⟨4, v, e⟩ pe ne ce p l c t) (hb : Below w0.heap.size w0 w) :
    Calls Tryz.prog 17 #[.agg #[.int .u8 4, .int .i64 v, .slice pe ne ce, .slice p l c]] w fun e w' => e = .returned (.string (jb (wordsT t))) ∧ Below w.heap.size w w' := by
  have hlen := hI.len
  have hnode := (may_node hok).1
  rw [hI.head] at hnode
  have hcap := hI.cap
  have hef2 := hef
  rw [allT_eq, Bool.and_eq_true, hI.head] at hef2
  have hv1 := hI.ok.r
  simp only at hv1
  obtain rfl : l = 2 := by simp at hnode; omega
  obtain ⟨b, o, rfl, hk⟩ := kid_at hI (by omega)
  obtain ⟨qe0, de0, q0, d0, hI0, hc0⟩ := hk 0 (by omega)
  have ok0 := may_kid hok (i := 0) (by omega)
  have ef0 := allK_get _ (j := 0) (by omega) hef2.2
  have ne0 := words_nil ok0
  rw [show o + 0 * 4 = o from by omega] at hc0
  obtain ⟨qe1, de1, q1, d1, hI1, hc1⟩ := hk 1 (by omega)
  have ok1 := may_kid hok (i := 1) (by omega)
  have ef1 := allK_get _ (j := 1) (by omega) hef2.2
  have ne1 := words_nil ok1
  rw [show o + 1 * 4 = o + 4 from by omega] at hc1
  have hww := wt2 (t := t) (by omega)
  have hkd0 := kw_get (show 0 < t.ks.length by omega)
  have hkd1 := kw_get (show 1 < t.ks.length by omega)
  have ew : jb (wordsT t) = (((((((⟨#[40, 32]⟩ : ByteArray) ++ jb (wordsT (tget t.ks 0))) ++ (⟨#[32, 45, 62, 32]⟩ : ByteArray)) ++ jb (wordsT (tget t.ks 1))) ++ (⟨#[32, 33, 32]⟩ : ByteArray)) ++ textE (ofA e)) ++ (((⟨#[32, 64, 32]⟩ : ByteArray) ++ digs v) ++ (⟨#[32, 41]⟩ : ByteArray))) := by
    rw [wordsT_eq, hI.head]
    unfold comb
    apply bl_inj
    simp [hkd0, hkd1, bl_append, bl_app, bl_cons, bl_one, List.append_assoc, ne0, ne1]
    try simp [bl, wOpen, wShut, wStar, wRef, wArrow, wAt, wBang]
  rw [ew] at hsz ⊢
  simp only [ByteArray.size_append] at hsz
  have hz1 := add_run (⟨#[32, 64, 32]⟩ : ByteArray) (digs v) _ rfl (by simp only [ByteArray.size_append]; omega)
  have hz2 := add_run ((⟨#[32, 64, 32]⟩ : ByteArray) ++ digs v) (⟨#[32, 41]⟩ : ByteArray) _ rfl (by simp only [ByteArray.size_append]; omega)
  have ha0 := add_run ((⟨#[40, 32]⟩ : ByteArray)) (jb (wordsT (tget t.ks 0))) _ rfl (by simp only [ByteArray.size_append]; omega)
  have ha1 := add_run (((⟨#[40, 32]⟩ : ByteArray) ++ jb (wordsT (tget t.ks 0)))) ((⟨#[32, 45, 62, 32]⟩ : ByteArray)) _ rfl (by simp only [ByteArray.size_append]; omega)
  have ha2 := add_run ((((⟨#[40, 32]⟩ : ByteArray) ++ jb (wordsT (tget t.ks 0))) ++ (⟨#[32, 45, 62, 32]⟩ : ByteArray))) (jb (wordsT (tget t.ks 1))) _ rfl (by simp only [ByteArray.size_append]; omega)
  have ha3 := add_run (((((⟨#[40, 32]⟩ : ByteArray) ++ jb (wordsT (tget t.ks 0))) ++ (⟨#[32, 45, 62, 32]⟩ : ByteArray)) ++ jb (wordsT (tget t.ks 1)))) ((⟨#[32, 33, 32]⟩ : ByteArray)) _ rfl (by simp only [ByteArray.size_append]; omega)
  have ha4 := add_run ((((((⟨#[40, 32]⟩ : ByteArray) ++ jb (wordsT (tget t.ks 0))) ++ (⟨#[32, 45, 62, 32]⟩ : ByteArray)) ++ jb (wordsT (tget t.ks 1))) ++ (⟨#[32, 33, 32]⟩ : ByteArray))) (textE (ofA e)) _ rfl (by simp only [ByteArray.size_append]; omega)
  have ha5 := add_run (((((((⟨#[40, 32]⟩ : ByteArray) ++ jb (wordsT (tget t.ks 0))) ++ (⟨#[32, 45, 62, 32]⟩ : ByteArray)) ++ jb (wordsT (tget t.ks 1))) ++ (⟨#[32, 33, 32]⟩ : ByteArray)) ++ textE (ofA e))) ((((⟨#[32, 64, 32]⟩ : ByteArray) ++ digs v) ++ (⟨#[32, 41]⟩ : ByteArray))) _ rfl (by simp only [ByteArray.size_append]; omega)
  have hp0 := fun W hb => hT (tget t.ks 0) _ qe0 _ de0 q0 _ d0 W (by omega) ok0 ef0 (by omega) hI0 hb
  have hp1 := fun W hb => hT (tget t.ks 1) _ qe1 _ de1 q1 _ d1 W (by omega) ok1 ef1 (by omega) hI1 hb
  have hdg := fun O => Effect.refDigits_walk v hv1.1 hv1.2 (w.alloc O)
  have hdv : (⟨(Lib.itoa v).toArray⟩ : ByteArray) = digs v := rfl
  rw [hdv] at hdg
  have hte := fun W hb => Effect.refText_walk (w := W) (c := ce) (hI.eff.below hb).rd (by rw [← hI.elen]; exact (eff_iff.1 hef2.1).1) (sh_eff hI.ok.e (eff_iff.1 hef2.1).2 (Nat.le_refl _))
  have hX : ∀ W, Below (w.alloc (.cells #[.int .u8 4, .int .i64 v, .slice pe ne ce, .slice (some ⟨b, o, none⟩) 2 c] 25)).heap.size (w.alloc (.cells #[.int .u8 4, .int .i64 v, .slice pe ne ce, .slice (some ⟨b, o, none⟩) 2 c] 25)) W → W.cell? ⟨w.heap.size, 0, none⟩ = some (.int .u8 4) ∧ W.cell? ⟨w.heap.size, 1, none⟩ = some (.int .i64 v) ∧ W.cell? ⟨w.heap.size, 2, none⟩ = some (.slice pe ne ce) ∧ W.cell? ⟨w.heap.size, 3, none⟩ = some (.slice (some ⟨b, o, none⟩) 2 c) := fun W hb => box4 rfl hb
  have hcl : c ≤ 9223372036854775807 := hcap.2
  have hcq := hcap.1
  have HB := Lib.hid hb; have HX := Lib.hid hX; have HD := Lib.hid hdg; have HTE := Lib.hid hte; have HP0 := Lib.hid hp0; have HC0 := Lib.hid hc0; have HP1 := Lib.hid hp1; have HC1 := Lib.hid hc1
  clear hb hX hT hI hok hm hlen hnode hcap hk hww hsz ew hdg hdv hef hef2 hv1 hte hkd0 hp0 hc0 hI0 ok0 ef0 ne0 hkd1 hp1 hc1 hI1 ok1 ef1 ne1
  generalize digs v = dv at *
  generalize jb (wordsT (tget t.ks 0)) = J0 at *
  generalize jb (wordsT (tget t.ks 1)) = J1 at *
  generalize textE (ofA e) = te at *
  generalize ((⟨#[32, 64, 32]⟩ : ByteArray) ++ dv : ByteArray) = Z1 at *
  generalize (Z1 ++ (⟨#[32, 41]⟩ : ByteArray) : ByteArray) = Z2 at *
  generalize ((⟨#[40, 32]⟩ : ByteArray) ++ J0 : ByteArray) = X0 at *
  generalize (X0 ++ (⟨#[32, 45, 62, 32]⟩ : ByteArray) : ByteArray) = X1 at *
  generalize (X1 ++ J1 : ByteArray) = X2 at *
  generalize (X2 ++ (⟨#[32, 33, 32]⟩ : ByteArray) : ByteArray) = X3 at *
  generalize (X3 ++ te : ByteArray) = X4 at *
  generalize (X4 ++ Z2 : ByteArray) = X5 at *
  go_enter Tryz.func17, Tryz.ntmps17
  go_wp2_with (fail)
  refine (HD.out _).mono ?_
  rintro en wz ⟨rfl, hbz⟩
  have HBZ := Lib.hid hbz
  obtain ⟨c0, c1, c2, c3⟩ := HX.out _ hbz
  have hbwz := below_row (Below.refl w.heap.size w) hbz (Nat.le_refl _)
  have HWZ := Lib.hid hbwz
  obtain ⟨a0, a1, a2, a3⟩ := HC0.out _ (HB.out.trans (hbwz.mono HB.out.size))
  clear hbz hbwz
  go_wp2_with (fail)
  refine (HP0.out _ (HB.out.trans (HWZ.out.mono HB.out.size))).mono ?_
  rintro en w1 ⟨rfl, hb1⟩
  have HB1 := Lib.hid (below_then HBZ.out hb1 HBZ.out.size)
  have HW1 := Lib.hid (below_then HWZ.out hb1 HWZ.out.size)
  clear hb1 c0 c1 c2 c3 a0 a1 a2 a3
  obtain ⟨c0, c1, c2, c3⟩ := HX.out _ HB1.out
  obtain ⟨g0, g1, g2, g3⟩ := HC1.out _ (HB.out.trans (HW1.out.mono HB.out.size))
  go_wp2_with (fail)
  refine (HP1.out _ (HB.out.trans (HW1.out.mono HB.out.size))).mono ?_
  rintro en w2 ⟨rfl, hb2⟩
  have HB2 := Lib.hid (below_then HB1.out hb2 HB1.out.size)
  have HW2 := Lib.hid (below_then HW1.out hb2 HW1.out.size)
  clear hb2 c0 c1 c2 c3 g0 g1 g2 g3
  obtain ⟨c0, c1, c2, c3⟩ := HX.out _ HB2.out
  go_wp2_with (fail)
  refine (HTE.out _ (HB.out.trans (HW2.out.mono HB.out.size))).mono ?_
  rintro en w3 ⟨rfl, hb3⟩
  have HW3 := Lib.hid (below_then HW2.out hb3 HW2.out.size)
  clear hb3 c0 c1 c2 c3
  go_wp2_with (fail)
  go_ret
  exact ⟨rfl, HW3.out⟩

/-- THE DOCUMENT'S TEXT. -/
theorem refText_all (w0 : World) : ∀ m, TextIs w0 m := by
  intro m
  induction m with
  | zero =>
    intro t h pe ne ce p l c w hm
    have := wt_pos t
    omega
  | succ m ih =>
    intro t h pe ne ce p l c w hm hok hef hsz hI hb
    have hk := (may_node hok).1
    rw [hI.head] at hk
    obtain ⟨k, v, e⟩ := h
    simp only at hk
    have hh : k = 1 ∨ k = 2 ∨ k = 3 ∨ k = 4 := by omega
    rcases hh with rfl | rfl | rfl | rfl
    · exact ref_1 w0 m ih t v e pe ne ce p l c w hm hok hef hsz hI hb
    · exact ref_2 w0 m ih t v e pe ne ce p l c w hm hok hef hsz hI hb
    · exact ref_3 w0 m ih t v e pe ne ce p l c w hm hok hef hsz hI hb
    · exact ref_4 w0 m ih t v e pe ne ce p l c w hm hok hef hsz hI hb
end Rt
end Go.Proofs.YtabegjpledammaaGreatDoor
