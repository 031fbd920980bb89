/- The document's parser: an expression. (Written by wip/tools/expr.py.) -/
import Derived.Test.YtadpjkehflokcaaGreatDoorGParseW
namespace Go.Proofs.YtadpjkehflokcaaGreatDoor
open Go.RowKit
set_option linter.unusedVariables false
set_option linter.unusedSimpArgs false
namespace Parse
open Token (Tok tel ToksAt)
open Term (Tm Hd TmIs Flat tcells veil Reads HdOk Kids)
open Words (str_no str_yes sel)

theorem row_le {B d : Nat} {q : Option Addr} {us : List Tm} {W : World} (h : RowM B (.slice q us.length d) us W) (hp : 0 < us.length) : B ≤ W.heap.size := by
  obtain ⟨g, rfl⟩ := row_at h hp
  have := h.lt g rfl
  omega

set_option maxRecDepth 100000 in
set_option maxHeartbeats 51200000 in
theorem dex_try (g n c : Nat) (ts : List Tok) (m : Nat) (hP : DParts (partsF ts m) g n c ts) (hL : DLevel (levelF ts m 0) 0 g n c ts) (w : World) (i : Nat) (R : St × Tm) (hR : RowAt w g n c ts) (hs : i < n) (hw : textOf ts i = wTry) (hF : exprF ts (m + 1) ⟨i, false⟩ = some R) :
    Calls Tryz.prog 24 #[.agg #[.slice (some ⟨g, 0, none⟩) n c, .int .i64 (i : Int), .bool false]] w (DEnd g n c R w) := by
  obtain ⟨i0, hi, hz0, hz1, hz2⟩ := info_parts infoTm
  have HI := Lib.hid hi; have HZ0 := Lib.hid hz0; have HZ1 := Lib.hid hz1; have HZ2 := Lib.hid hz2
  clear hi hz0 hz1 hz2
  have hF' : (partsF ts m [e0] (wantF ts ⟨i, false⟩ wTry)).bind (fun r => (partsF ts m [wArrow] (getF ts (getF ts (wantF ts r.1 wWith) 3) 2)).map fun q => (q.1, Tm.node ⟨16, 0, plA ts i, 0, ⟨#[]⟩, getS ts (getF ts (wantF ts r.1 wWith) 3) 2, getS ts (wantF ts r.1 wWith) 3⟩ (r.2 ++ q.2))) = some R := by
    have e : exprF ts (m + 1) ⟨i, false⟩ = (partsF ts m [e0] (wantF ts ⟨i, false⟩ wTry)).bind (fun r => (partsF ts m [wArrow] (getF ts (getF ts (wantF ts r.1 wWith) 3) 2)).map fun q => (q.1, Tm.node ⟨16, 0, plA ts i, 0, ⟨#[]⟩, getS ts (getF ts (wantF ts r.1 wWith) 3) 2, getS ts (wantF ts r.1 wWith) 3⟩ (r.2 ++ q.2))) := by
      rw [exprF]
      simp only [Bool.false_eq_true, if_false]
      rw [if_neg (by rw [hw]; decide), if_neg (by rw [hw]; decide), if_neg (by rw [hw]; decide), if_neg (by rw [hw]; decide), if_pos hw]
    rw [← e]; exact hF
  obtain ⟨s1, hs1⟩ : ∃ s1, s1 = wantF ts ⟨i, false⟩ wTry := ⟨_, rfl⟩
  have cs1 : ∀ W, RowAt W g n c ts → Calls Tryz.prog 23 #[.agg #[.slice (some ⟨g, 0, none⟩) n c, .int .i64 (i : Int), .bool false], .string ⟨#[116, 114, 121]⟩] W (StEnd g n c s1 W) := fun W h => by rw [hs1]; exact want_walk W g n c ts i false wTry h hs
  have ls1 : s1.i < n := by rw [hs1]; exact want_n hR (by decide) hs
  rw [← hs1] at hF'
  have Cs1 := Lib.hid cs1; have Ls1 := Lib.hid ls1
  clear cs1
  obtain ⟨r, hr, hF2⟩ := Option.bind_eq_some_iff.1 hF'
  clear hF'
  have hF' := hF2
  clear hF2
  have hrl : r.1.i < n := parts_n hR ls1 hr
  have hr1 : r.2.length = 1 := parts_len ts m _ _ _ hr
  obtain ⟨s2, hs2⟩ : ∃ s2, s2 = wantF ts r.1 wWith := ⟨_, rfl⟩
  have cs2 : ∀ W, RowAt W g n c ts → Calls Tryz.prog 23 #[.agg #[.slice (some ⟨g, 0, none⟩) n c, .int .i64 (r.1.i : Int), .bool r.1.bad], .string ⟨#[119, 105, 116, 104]⟩] W (StEnd g n c s2 W) := fun W h => by rw [hs2]; exact want_walk W g n c ts r.1.i r.1.bad wWith h hrl
  have ls2 : s2.i < n := by rw [hs2]; exact want_n hR (by decide) hrl
  rw [← hs2] at hF'
  have Cs2 := Lib.hid cs2; have Ls2 := Lib.hid ls2
  clear cs2
  obtain ⟨s3, hs3⟩ : ∃ s3, s3 = getF ts s2 3 := ⟨_, rfl⟩
  obtain ⟨ex, hex⟩ : ∃ ex, ex = getS ts s2 3 := ⟨_, rfl⟩
  have cs3 : ∀ W, RowAt W g n c ts → Calls Tryz.prog 22 #[.agg #[.slice (some ⟨g, 0, none⟩) n c, .int .i64 (s2.i : Int), .bool s2.bad], .int .u8 3] W (GetEnd g n c s3 ex W) := fun W h => by rw [hs3, hex]; exact get_walk W g n c ts s2.i s2.bad 3 h ls2
  have ls3 : s3.i < n := by rw [hs3]; exact get_n hR (by decide) ls2
  have zex : ex.size ≤ 70000 := by rw [hex]; exact getS_small hR s2 ls2 3
  rw [← hs3, ← hex] at hF'
  have Cs3 := Lib.hid cs3; have Ls3 := Lib.hid ls3; have Zex := Lib.hid zex
  clear cs3 zex
  obtain ⟨s4, hs4⟩ : ∃ s4, s4 = getF ts s3 2 := ⟨_, rfl⟩
  obtain ⟨ar, har⟩ : ∃ ar, ar = getS ts s3 2 := ⟨_, rfl⟩
  have cs4 : ∀ W, RowAt W g n c ts → Calls Tryz.prog 22 #[.agg #[.slice (some ⟨g, 0, none⟩) n c, .int .i64 (s3.i : Int), .bool s3.bad], .int .u8 2] W (GetEnd g n c s4 ar W) := fun W h => by rw [hs4, har]; exact get_walk W g n c ts s3.i s3.bad 2 h ls3
  have ls4 : s4.i < n := by rw [hs4]; exact get_n hR (by decide) ls3
  have zar : ar.size ≤ 70000 := by rw [har]; exact getS_small hR s3 ls3 2
  rw [← hs4, ← har] at hF'
  have Cs4 := Lib.hid cs4; have Ls4 := Lib.hid ls4; have Zar := Lib.hid zar
  clear cs4 zar
  obtain ⟨v, hv, rfl⟩ := Option.map_eq_some_iff.1 hF'
  have hvl : v.1.i < n := parts_n hR ls4 hv
  have hv1 : v.2.length = 1 := parts_len ts m _ _ _ hv
  have HR0 := Lib.hid hr; have HRL := Lib.hid hrl; have HV0 := Lib.hid hv; have HVL := Lib.hid hvl; have HR1 := Lib.hid hr1; have HV1 := Lib.hid hv1
  clear hr hrl hv hvl hF' hr1 hv1 ls1 ls2 ls3 ls4 hs1 hs2 hs3 hs4 hex har
  have hps := ps_new w g n c ⟨i, false⟩ hs
  obtain ⟨s0, s1', s2'⟩ := (hR.below hps.below).toks i (by rw [hR.len]; exact hs)
  have hgl := World.block_lt_of_cell? _ _ s0
  simp only at hgl
  have hi1 : (i : Int) < (n : Int) := by omega
  have hi0 : (0 : Int) ≤ (i : Int) := by omega
  have hi2 : (i : Int) ≤ 70000 := by have := hR.small; omega
  have hpl : -9223372036854775808 ≤ ((tel ts i).a : Int) ∧ ((tel ts i).a : Int) ≤ 9223372036854775807 := by have := hR.places i hs; omega
  have hpa : plA ts i = ((tel ts i).a : Int) := rfl
  have hrow := fun W (hb : Below w.heap.size w W) => hR.below hb
  have htx := text_walk (((w.alloc (.cells #[.slice (some ⟨g, 0, none⟩) n c, .int .i64 (i : Int), .bool false] 56)).alloc (.cells #[.slice none 0 0, .int .i64 0, .bool false] 56)).alloc (.cells #[.int .u8 0, .int .u8 0, .int .i64 0, .int .i64 0, .string ⟨#[]⟩, .string ⟨#[]⟩, .string ⟨#[]⟩, .slice none 0 0] 29)) g n c ts i false (hR.below hps.below) hs
  have qwLet : ((textOf ts i).toList == [108, 101, 116]) = false := by rw [← etl_wLet]; rw [hw]; decide +kernel
  have qwLetrec : ((textOf ts i).toList == [108, 101, 116, 114, 101, 99]) = false := by rw [← etl_wLetrec]; rw [hw]; decide +kernel
  have qwFn : ((textOf ts i).toList == [102, 110]) = false := by rw [← etl_wFn]; rw [hw]; decide +kernel
  have qwIf : ((textOf ts i).toList == [105, 102]) = false := by rw [← etl_wIf]; rw [hw]; decide +kernel
  have qwTry : ((textOf ts i).toList == [116, 114, 121]) = true := by rw [← etl_wTry]; exact str_yes hw
  have HW := Lib.hid hw
  clear hw
  have HPS := Lib.hid hps; have HTX := Lib.hid htx; have HROW := Lib.hid hrow; have HP := Lib.hid hP; have HLV := Lib.hid hL; have HR := Lib.hid hR; have HPL := Lib.hid hpl
  clear hps htx hrow hP hL hR hF hpl
  go_enter Tryz.func24, Tryz.ntmps24
  go_wp2_with (fail)
  refine HTX.out.mono ?_
  rintro e w2 ⟨rfl, hb2⟩
  have HPSa := Lib.hid ((HPS.out.call hb2).call ((al_new (W := w2) (.cells #[] 29)).trans ((al_new (.cells #[.int .u8 0, .int .u8 0, .int .i64 0, .int .i64 0, .string ⟨#[]⟩, .string ⟨#[]⟩, .string ⟨#[]⟩, .slice none 0 0] 29)).mono (al_new (W := w2) (.cells #[] 29)).size)))
  have hz7 : ((w2.alloc (.cells #[] 29)).alloc (.cells #[.int .u8 0, .int .u8 0, .int .i64 0, .int .i64 0, .string ⟨#[]⟩, .string ⟨#[]⟩, .string ⟨#[]⟩, .slice none 0 0] 29)).heap[w2.heap.size + 1]? = some (.cells #[.int .u8 0, .int .u8 0, .int .i64 0, .int .i64 0, .string ⟨#[]⟩, .string ⟨#[]⟩, .string ⟨#[]⟩, .slice none 0 0] 29 (0, 0)) := by rw [← show (w2.alloc (.cells #[] 29)).heap.size = w2.heap.size + 1 from by simp]; exact heap_alloc_new _ _
  have HZ7 := Lib.hid hz7
  have hsz2 : w.heap.size + 3 ≤ w2.heap.size := (HPS.out.call hb2).size
  clear hb2 HPS HTX s0 s1' s2' hgl hz7
  generalize hxx : textOf ts i = x at *
  clear hxx
  obtain ⟨⟨x0, x1, x2⟩, y0, y1, y2⟩ := cellsS HPSa.out.b1
  go_wp2_with (fail)
  refine (Cs1.out ((w2.alloc (.cells #[] 29)).alloc (.cells #[.int .u8 0, .int .u8 0, .int .i64 0, .int .i64 0, .string ⟨#[]⟩, .string ⟨#[]⟩, .string ⟨#[]⟩, .slice none 0 0] 29)) (HROW.out _ HPSa.out.below)).mono ?_
  rintro e w3 ⟨rfl, hb3⟩
  have HPS_3 := Lib.hid (HPSa.out.call hb3)
  have H7_3 := Lib.hid (bx_call HZ7.out hb3)
  clear hb3 x0 x1 x2 y0 y1 y2
  obtain ⟨⟨x0, x1, x2⟩, y0, y1, y2⟩ := cellsS HPS_3.out.b1
  go_wp2_with ((refine wpList_stS w.heap.size 1 108 (some ⟨g, 0, none⟩) n c s1.i s1.bad _ _ _ rfl rfl HPS_3.out.b1 ?_; intro w4 p4; have HPS_4 := Lib.hid (HPS_3.out.state (s' := s1) p4 Ls1.out); have H7_4 := Lib.hid (bx_put H7_3.out p4 (by omega)); clear p4; clear x0 x1 x2 y0 y1 y2; obtain ⟨⟨x0, x1, x2⟩, y0, y1, y2⟩ := cellsS HPS_4.out.b1))
  have hal5 := al_new (W := w4) (.cells #[.string ⟨#[]⟩] 9)
  have HPS_5 := Lib.hid (HPS_4.out.call hal5)
  have H7_5 := Lib.hid (bx_call H7_4.out hal5)
  have hws5 : ∀ j, j < 1 → (w4.alloc (.cells #[.string ⟨#[]⟩] 9)).cell? ⟨w4.heap.size, j, none⟩ = some (.string (sel [e0] j)) := fun j hj => by
    have h1 := heap_alloc_new w4 (.cells #[.string ⟨#[]⟩] 9)
    have : j = 0 := by omega
    subst this <;> (unfold World.cell?; rw [h1]; rfl)
  have hbk5 : w4.heap.size < (w4.alloc (.cells #[.string ⟨#[]⟩] 9)).heap.size := lt_of_block (heap_alloc_new w4 (.cells #[.string ⟨#[]⟩] 9))
  have hpc5 := HP.out (w4.alloc (.cells #[.string ⟨#[]⟩] 9)) s1 [e0] w4.heap.size 1 r (HROW.out _ HPS_5.out.below) Ls1.out hws5 rfl (by omega) hbk5 HR0.out
  have HPC5 := Lib.hid hpc5
  clear hws5 hpc5 hbk5
  refine (HPC5.out).mono ?_
  rintro e w6 ⟨q1, d1, rfl, hRow, hb6⟩
  have HPS_6 := Lib.hid (HPS_5.out.call hb6)
  have H7_6 := Lib.hid (bx_call H7_5.out hb6)
  obtain ⟨B1, hB1⟩ : ∃ B1, B1 = (w4.alloc (.cells #[.string ⟨#[]⟩] 9)).heap.size := ⟨_, rfl⟩
  rw [← hB1] at hRow
  have hszb : w2.heap.size + 1 < B1 := by rw [hB1]; exact lt_of_block H7_5.out
  have HRW := Lib.hid (RowFr.new hRow)
  clear hB1 hRow
  clear hb6 x0 x1 x2 y0 y1 y2
  obtain ⟨⟨x0, x1, x2⟩, y0, y1, y2⟩ := cellsS HPS_6.out.b1
  go_wp2_with ((refine wpList_stS w.heap.size 1 113 (some ⟨g, 0, none⟩) n c r.1.i r.1.bad _ _ _ rfl rfl HPS_6.out.b1 ?_; intro w7 p7; have HPS_7 := Lib.hid (HPS_6.out.state (s' := r.1) p7 HRL.out); have H7_7 := Lib.hid (bx_put H7_6.out p7 (by omega)); have HRW_7 := Lib.hid (HRW.out.put p7 (.inl (by omega))); clear p7; clear x0 x1 x2 y0 y1 y2; obtain ⟨⟨x0, x1, x2⟩, y0, y1, y2⟩ := cellsS HPS_7.out.b1))
  refine (Cs2.out w7 (HROW.out _ HPS_7.out.below)).mono ?_
  rintro e w8 ⟨rfl, hb8⟩
  have HPS_8 := Lib.hid (HPS_7.out.call hb8)
  have H7_8 := Lib.hid (bx_call H7_7.out hb8)
  have HRW_8 := Lib.hid (HRW_7.out.call hb8)
  clear hb8 x0 x1 x2 y0 y1 y2
  obtain ⟨⟨x0, x1, x2⟩, y0, y1, y2⟩ := cellsS HPS_8.out.b1
  go_wp2_with ((refine wpList_stS w.heap.size 1 116 (some ⟨g, 0, none⟩) n c s2.i s2.bad _ _ _ rfl rfl HPS_8.out.b1 ?_; intro w9 p9; have HPS_9 := Lib.hid (HPS_8.out.state (s' := s2) p9 Ls2.out); have H7_9 := Lib.hid (bx_put H7_8.out p9 (by omega)); have HRW_9 := Lib.hid (HRW_8.out.put p9 (.inl (by omega))); clear p9; clear x0 x1 x2 y0 y1 y2; obtain ⟨⟨x0, x1, x2⟩, y0, y1, y2⟩ := cellsS HPS_9.out.b1))
  refine (Cs3.out w9 (HROW.out _ HPS_9.out.below)).mono ?_
  rintro e w10 ⟨rfl, hb10⟩
  have HPS_10 := Lib.hid (HPS_9.out.call hb10)
  have H7_10 := Lib.hid (bx_call H7_9.out hb10)
  have HRW_10 := Lib.hid (HRW_9.out.call hb10)
  clear hb10 x0 x1 x2 y0 y1 y2
  obtain ⟨⟨x0, x1, x2⟩, y0, y1, y2⟩ := cellsS HPS_10.out.b1
  go_wp2_with (first | (refine wpList_stS w.heap.size 1 120 (some ⟨g, 0, none⟩) n c s3.i s3.bad _ _ _ rfl rfl HPS_10.out.b1 ?_; intro w11 p11; have HPS_11 := Lib.hid (HPS_10.out.state (s' := s3) p11 Ls3.out); have H7_11 := Lib.hid (bx_put H7_10.out p11 (by omega)); have HRW_11 := Lib.hid (HRW_10.out.put p11 (.inl (by omega))); clear p11; clear x0 x1 x2 y0 y1 y2; obtain ⟨⟨x0, x1, x2⟩, y0, y1, y2⟩ := cellsS HPS_11.out.b1) | (refine wpList_stF6 (w2.heap.size + 1) 123 (.tmp 121) ex _ _ _ _ _ _ _ _ rfl rfl H7_11.out ?_; intro w12 p12; have HPS_12 := Lib.hid (HPS_11.out.put p12 (by omega)); have H7_12 := Lib.hid p12.here; have HRW_12 := Lib.hid (HRW_11.out.put p12 (.inl (by omega))); clear p12; clear x0 x1 x2 y0 y1 y2; obtain ⟨⟨x0, x1, x2⟩, y0, y1, y2⟩ := cellsS HPS_12.out.b1))
  refine (Cs4.out w12 (HROW.out _ HPS_12.out.below)).mono ?_
  rintro e w13 ⟨rfl, hb13⟩
  have HPS_13 := Lib.hid (HPS_12.out.call hb13)
  have H7_13 := Lib.hid (bx_call H7_12.out hb13)
  have HRW_13 := Lib.hid (HRW_12.out.call hb13)
  clear hb13 x0 x1 x2 y0 y1 y2
  obtain ⟨⟨x0, x1, x2⟩, y0, y1, y2⟩ := cellsS HPS_13.out.b1
  go_wp2_with (first | (refine wpList_stS w.heap.size 1 127 (some ⟨g, 0, none⟩) n c s4.i s4.bad _ _ _ rfl rfl HPS_13.out.b1 ?_; intro w14 p14; have HPS_14 := Lib.hid (HPS_13.out.state (s' := s4) p14 Ls4.out); have H7_14 := Lib.hid (bx_put H7_13.out p14 (by omega)); have HRW_14 := Lib.hid (HRW_13.out.put p14 (.inl (by omega))); clear p14; clear x0 x1 x2 y0 y1 y2; obtain ⟨⟨x0, x1, x2⟩, y0, y1, y2⟩ := cellsS HPS_14.out.b1) | (refine wpList_stF5 (w2.heap.size + 1) 130 (.tmp 128) ar _ _ _ _ _ _ _ _ rfl rfl H7_14.out ?_; intro w15 p15; have HPS_15 := Lib.hid (HPS_14.out.put p15 (by omega)); have H7_15 := Lib.hid p15.here; have HRW_15 := Lib.hid (HRW_14.out.put p15 (.inl (by omega))); clear p15; clear x0 x1 x2 y0 y1 y2; obtain ⟨⟨x0, x1, x2⟩, y0, y1, y2⟩ := cellsS HPS_15.out.b1; have xl := lt_of_block HPS_15.out.b1))
  have hal16 := al_new (W := w15) (.cells #[] 29)
  have HPS_16 := Lib.hid (HPS_15.out.call hal16)
  have H7_16 := Lib.hid (bx_call H7_15.out hal16)
  have HRW_16 := Lib.hid (HRW_15.out.call hal16)
  have hal17 := al_new (W := (w15.alloc (.cells #[] 29))) (.cells #[.string ⟨#[61, 62]⟩] 9)
  have HPS_17 := Lib.hid (HPS_16.out.call hal17)
  have H7_17 := Lib.hid (bx_call H7_16.out hal17)
  have HRW_17 := Lib.hid (HRW_16.out.call hal17)
  have hnw17 := heap_alloc_new (w15.alloc (.cells #[] 29)) (.cells #[.string ⟨#[61, 62]⟩] 9)
  rw [show (w15.alloc (.cells #[] 29)).heap.size = w15.heap.size + 1 from by simp] at hnw17
  have hws17 : ∀ j, j < 1 → ((w15.alloc (.cells #[] 29)).alloc (.cells #[.string ⟨#[61, 62]⟩] 9)).cell? ⟨(w15.heap.size + 1), j, none⟩ = some (.string (sel [wArrow] j)) := fun j hj => by
    have : j = 0 := by omega
    subst this
    unfold World.cell?; rw [hnw17]; rfl
  have hbk17 : (w15.heap.size + 1) < ((w15.alloc (.cells #[] 29)).alloc (.cells #[.string ⟨#[61, 62]⟩] 9)).heap.size := lt_of_block hnw17
  have hpc17 := HP.out ((w15.alloc (.cells #[] 29)).alloc (.cells #[.string ⟨#[61, 62]⟩] 9)) s4 [wArrow] (w15.heap.size + 1) 1 v (HROW.out _ HPS_17.out.below) Ls4.out hws17 rfl (by omega) hbk17 HV0.out
  have HPC17 := Lib.hid hpc17
  have hrz := HRW_17.out.size
  clear hws17 hpc17 hbk17 hnw17
  refine (HPC17.out).mono ?_
  rintro e w18 ⟨q2, d2, rfl, hRow2, hb18⟩
  have HPS_18 := Lib.hid (HPS_17.out.call hb18)
  have H7_18 := Lib.hid (bx_call H7_17.out hb18)
  have HRW_18 := Lib.hid (HRW_17.out.call hb18)
  obtain ⟨B2, hB2⟩ : ∃ B2, B2 = ((w15.alloc (.cells #[] 29)).alloc (.cells #[.string ⟨#[61, 62]⟩] 9)).heap.size := ⟨_, rfl⟩
  rw [← hB2] at hRow2 hrz
  obtain ⟨g2, rfl⟩ := row_at hRow2 (by rw [HV1.out]; omega)
  have hba := row_le HRW.out.row (by rw [HR1.out]; omega)
  have hbb : B1 ≤ B2 := by omega
  have HRX := Lib.hid (RowFr.new hRow2)
  clear hB2 hRow2
  clear hb18 x0 x1 x2 y0 y1 y2
  obtain ⟨⟨x0, x1, x2⟩, y0, y1, y2⟩ := cellsS HPS_18.out.b1
  have hrb : True := trivial
  have HRB := Lib.hid hrb
  clear hrb
  go_wp2_with (first | (refine wpList_stS w.heap.size 1 136 (some ⟨g, 0, none⟩) n c v.1.i v.1.bad _ _ _ rfl rfl HPS_18.out.b1 ?_; intro w19 p19; have HPS_19 := Lib.hid (HPS_18.out.state (s' := v.1) p19 HVL.out); have H7_19 := Lib.hid (bx_put H7_18.out p19 (by omega)); have HRW_19 := Lib.hid (HRW_18.out.put p19 (.inl (by omega))); have HRX_19 := Lib.hid (HRX.out.put p19 (.inl (by omega))); clear p19; clear x0 x1 x2 y0 y1 y2; obtain ⟨⟨x0, x1, x2⟩, y0, y1, y2⟩ := cellsS HPS_19.out.b1) | (at_builtin; go_loud (obtain ⟨xs, ys, hown, hyl, hnews, hy1, hob, hnext⟩ := rowM_cat HRW_19.out HRX_19.out hrz hbb; have hps := HPS_19.out; have hbs := HRB.out; have hl1 := HR1.out; have hl2 := HV1.out; refine wpList_append_own_at _ rfl (.tmp 138) (.tmp 139) 27 rfl B1 29 i0 _ 8 96 Tryz.underlying27 HI.out HZ0.out HZ1.out HZ2.out rfl (by decide) (.slice q1 r.2.length d1) r.2.length xs rfl hown ⟨g2, 0, none⟩ v.2.length d2 ys rfl hyl hnews hy1 (by rw [hl1, hl2]; unfold maxLen; omega) (by rw [hl1, hl2]; omega) (by have := HRX_19.out.size; have := HRW_19.out.size; omega) ?_; intro v' w20 hown3 hgrow3 _ hat3; have hrow3 := hnext v' w20 hown3 hgrow3 hat3; obtain ⟨a3, c3, rfl, hc3, hn3⟩ := ownT_slice hown3; rw [← List.length_append] at hrow3; have HRY := Lib.hid (RowFr.new hrow3); have HPS_20 := Lib.hid (HPS_19.out.grow hgrow3 (fun b e => by have := hob b e; omega)); have H7_20 := Lib.hid (bx_grow H7_19.out hgrow3 (fun b e => by have := hob b e; omega)); clear hown3 hgrow3 hat3 hown hnews hnext hyl hy1 hob hrow3 hps hbs hl1 hl2 x0 x1 x2 y0 y1 y2; obtain ⟨⟨x0, x1, x2⟩, y0, y1, y2⟩ := cellsS HPS_20.out.b1)) | (refine wpList_stF0 (w2.heap.size + 1) 142 (.const (.int .u8 16)) 16 _ _ _ _ _ _ _ _ rfl rfl H7_20.out ?_; intro w21 p21; have HPS_21 := Lib.hid (HPS_20.out.put p21 (by omega)); have H7_21 := Lib.hid p21.here; have HRY_21 := Lib.hid (HRY.out.put p21 (.inl (by omega))); clear p21; clear x0 x1 x2 y0 y1 y2; obtain ⟨⟨x0, x1, x2⟩, y0, y1, y2⟩ := cellsS HPS_21.out.b1) | (refine wpList_stF2 (w2.heap.size + 1) 145 (.tmp 143) ((tel ts i).a : Int) _ _ _ _ _ _ _ _ rfl rfl H7_21.out ?_; intro w22 p22; have HPS_22 := Lib.hid (HPS_21.out.put p22 (by omega)); have H7_22 := Lib.hid p22.here; have HRY_22 := Lib.hid (HRY_21.out.put p22 (.inl (by omega))); clear p22; clear x0 x1 x2 y0 y1 y2; obtain ⟨⟨x0, x1, x2⟩, y0, y1, y2⟩ := cellsS HPS_22.out.b1) | (refine wpList_stF7 (w2.heap.size + 1) 147 (.tmp 146) a3 (r.2.length + v.2.length) c3 _ _ _ _ _ _ _ _ rfl rfl H7_22.out ?_; intro w23 p23; have HPS_23 := Lib.hid (HPS_22.out.put p23 (by omega)); have H7_23 := Lib.hid p23.here; have HRY_23 := Lib.hid (HRY_22.out.put p23 (.inl (by omega))); clear p23; clear x0 x1 x2 y0 y1 y2; obtain ⟨⟨x0, x1, x2⟩, y0, y1, y2⟩ := cellsS HPS_23.out.b1))
  clear x0 x1 x2 y0 y1 y2
  have hll : (r.2 ++ v.2).length = r.2.length + v.2.length := List.length_append
  have HLL := Lib.hid hll
  clear hll
  have hini := EndV.of_ps HPS_23.out
  refine wp_region_held_drew (S := fun V => EndV w w23 V) (by kernel_rfl) hini (fun hHeld => ?_)
  have HE0 := Lib.hid hini
  clear hini
  generalize w23.drew = v0 at *
  refine wpAnyH_take (i := 0) (v := .agg #[.slice (some ⟨g, 0, none⟩) n c, .int .i64 v.1.i, .bool v.1.bad]) rfl (by kernel_rfl) (by kernel_rfl) (by kernel_rfl) (fun _ _ _ h => h) (Or.inl ⟨by rfl, ?_⟩) (by assumption) ?_
  · intro w' hSw
    obtain ⟨⟨g0, g1, g2⟩, d0, d1, d2⟩ := cellsS ((hSw.off _ (lt_of_block HPS_23.out.b1) (by omega) (by omega)).trans HPS_23.out.b1)
    first | (go_simp; done) | rfl | (go_simp; first | exact IntWalk.i64_in _ (by omega) | exact IntWalk.u8_in _ (by omega))
  try simp only [Act.put, List.getElem_toArray, List.getElem_cons_succ, List.getElem_cons_zero, List.setIfInBounds_toArray, List.set_cons_zero, List.set_cons_succ]
  refine wpAnyH_take (i := 1) (v := .agg #[.int .u8 16, .int .u8 0, .int .i64 ((tel ts i).a : Int), .int .i64 0, .string ⟨#[]⟩, .string ar, .string ex, .slice a3 (r.2.length + v.2.length) c3]) rfl (by kernel_rfl) (by kernel_rfl) (by kernel_rfl) (fun _ _ _ h => h) (Or.inl ⟨by rfl, ?_⟩) (by assumption) ?_
  · intro w' hSw
    obtain ⟨⟨g0, g1, g2, g3, g4, g5, g6, g7⟩, d0, d1, d2, d3, d4, d5, d6, d7⟩ := cells8' ((hSw.off _ (lt_of_block H7_23.out) (by omega) (by omega)).trans H7_23.out)
    first | (go_simp; done) | rfl | (go_simp; first | exact IntWalk.i64_in _ (by omega) | exact IntWalk.u8_in _ (by omega))
  try simp only [Act.put, List.getElem_toArray, List.getElem_cons_succ, List.getElem_cons_zero, List.setIfInBounds_toArray, List.set_cons_zero, List.set_cons_succ]
  refine wpAnyH_ready (rs := [2]) (by kernel_rfl) (by simp) ?_
  refine AllReadyH.cons rfl (fun K hK => ?_) AllReadyH.nil
  have HK2 := Lib.hid hK
  clear hK
  try rw [if_pos (by rfl)]
  obtain ⟨x1, x2, x3, hx2⟩ := HE0.out.s2
  refine wp_stS _ _ _ _ _ _ _ (w.heap.size + 1) _ _ (some ⟨g, 0, none⟩) n c v.1.i v.1.bad x1 x2 x3 rfl rfl hx2 (fun va pa => ?_)
  clear hx2
  have HEa := Lib.hid (HE0.out.two pa)
  have PA := Lib.hid pa
  clear pa
  refine HK2.out _ _ HEa.out (fun hHeld => ?_)
  clear HK2
  try simp only [Act.put, List.getElem_toArray, List.getElem_cons_succ, List.getElem_cons_zero, List.setIfInBounds_toArray, List.set_cons_zero, List.set_cons_succ]
  clear K
  refine wpAnyH_ready (rs := [3]) (by kernel_rfl) (by simp) ?_
  refine AllReadyH.cons rfl (fun K hK => ?_) AllReadyH.nil
  have HK2 := Lib.hid hK
  clear hK
  try rw [if_pos (by rfl)]
  obtain ⟨y1, y2, y3, y4, y5, y6, y7, y8, hy3⟩ := HEa.out.s3
  refine wp_stT _ _ _ _ _ _ _ (w.heap.size + 1 + 1) _ _ 16 0 ((tel ts i).a : Int) 0 ⟨#[]⟩ ar ex a3 (r.2.length + v.2.length) c3 y1 y2 y3 y4 y5 y6 y7 y8 rfl rfl hy3 (fun vb pb => ?_)
  clear hy3
  have HEb := Lib.hid (HEa.out.three pb)
  have PB := Lib.hid pb
  clear pb
  refine HK2.out _ _ HEb.out (fun hHeld => ?_)
  clear HK2
  try simp only [Act.put, List.getElem_toArray, List.getElem_cons_succ, List.getElem_cons_zero, List.setIfInBounds_toArray, List.set_cons_zero, List.set_cons_succ]
  clear K
  refine wpAnyH_done (by kernel_rfl) ?_ _
  clear hHeld
  have htm' := nodeR (h' := ⟨16, 0, ((tel ts i).a : Int), 0, ⟨#[]⟩, ar, ex⟩) HRY_23.out (by omega) HEb.out (dhd_any (by omega) HPL.out (by omega) e_small Zar.out Zex.out)
  rw [HLL.out] at htm'
  have htm := htm'
  clear htm'
  have hr2 := (PB.out.off (w.heap.size + 1) (by omega)).trans PA.out.here
  have hr3 := PB.out.here
  obtain ⟨⟨r0, r1, r2⟩, d0, d1, d2⟩ := cellsS hr2
  obtain ⟨⟨g0, g1, g2, g3, g4, g5, g6, g7⟩, e0, e1, e2, e3, e4, e5, e6, e7⟩ := cells8' hr3
  have rl2 := lt_of_block hr2
  have rl3 := lt_of_block hr3
  have HTM := Lib.hid htm
  clear htm hr2 hr3
  go_wp2_with (fail)
  refine bodyPost_ret (v := .tuple #[.agg #[.slice (some ⟨g, 0, none⟩) n c, .int .i64 v.1.i, .bool v.1.bad], .agg #[.int .u8 16, .int .u8 0, .int .i64 ((tel ts i).a : Int), .int .i64 0, .string ⟨#[]⟩, .string ar, .string ex, .slice a3 (r.2.length + v.2.length) c3]]) (by simp [results, Tryz.results24, go_sem, r0, r1, r2, g0, g1, g2, g3, g4, g5, g6, g7, rl2, rl3]) rfl ⟨⟨16, 0, ((tel ts i).a : Int), 0, ⟨#[]⟩, ar, ex⟩, a3, (r.2.length + v.2.length), c3, rfl, HTM.out, HEb.out.below⟩
end Parse
end Go.Proofs.YtadpjkehflokcaaGreatDoor
