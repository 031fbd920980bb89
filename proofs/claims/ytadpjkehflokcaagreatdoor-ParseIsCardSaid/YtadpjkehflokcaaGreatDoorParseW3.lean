/- The document's parser: an expression. (Written by wip/tools/expr.py.) -/
import Derived.Test.YtadpjkehflokcaaGreatDoorGParseV
namespace Go.Proofs.YtadpjkehflokcaaGreatDoor
open Go.RowKit
set_option linter.unusedVariables false
set_option linter.unusedSimpArgs false
namespace Parse
open Token (Tok tel ToksAt)
open Term (Tm Hd TmIs Flat tcells veil Reads HdOk Kids)
open Words (str_no str_yes sel)

set_option maxRecDepth 100000 in
set_option maxHeartbeats 51200000 in
theorem dex_fn (g n c : Nat) (ts : List Tok) (m : Nat) (hP : DParts (partsF ts m) g n c ts) (hL : DLevel (levelF ts m 0) 0 g n c ts) (w : World) (i : Nat) (R : St × Tm) (hR : RowAt w g n c ts) (hs : i < n) (hw : textOf ts i = wFn) (hF : exprF ts (m + 1) ⟨i, false⟩ = some R) :
    Calls Tryz.prog 24 #[.agg #[.slice (some ⟨g, 0, none⟩) n c, .int .i64 (i : Int), .bool false]] w (DEnd g n c R w) := by
  have hF' : (partsF ts m [wArrow] (getF ts (wantF ts ⟨i, false⟩ wFn) 2)).map (fun r => (r.1, Tm.node ⟨11, 0, plA ts i, 0, ⟨#[]⟩, getS ts (wantF ts ⟨i, false⟩ wFn) 2, ⟨#[]⟩⟩ r.2)) = some R := by
    have e : exprF ts (m + 1) ⟨i, false⟩ = (partsF ts m [wArrow] (getF ts (wantF ts ⟨i, false⟩ wFn) 2)).map (fun r => (r.1, Tm.node ⟨11, 0, plA ts i, 0, ⟨#[]⟩, getS ts (wantF ts ⟨i, false⟩ wFn) 2, ⟨#[]⟩⟩ r.2)) := by
      rw [exprF]
      simp only [Bool.false_eq_true, if_false]
      rw [if_neg (by rw [hw]; decide), if_neg (by rw [hw]; decide), if_pos hw]
    rw [← e]; exact hF
  obtain ⟨s1, hs1⟩ : ∃ s1, s1 = wantF ts ⟨i, false⟩ wFn := ⟨_, rfl⟩
  have cs1 : ∀ W, RowAt W g n c ts → Calls Tryz.prog 23 #[.agg #[.slice (some ⟨g, 0, none⟩) n c, .int .i64 (i : Int), .bool false], .string ⟨#[102, 110]⟩] W (StEnd g n c s1 W) := fun W h => by rw [hs1]; exact want_walk W g n c ts i false wFn h hs
  have ls1 : s1.i < n := by rw [hs1]; exact want_n hR (by decide) hs
  rw [← hs1] at hF'
  have Cs1 := Lib.hid cs1; have Ls1 := Lib.hid ls1
  clear cs1
  obtain ⟨s2, hs2⟩ : ∃ s2, s2 = getF ts s1 2 := ⟨_, rfl⟩
  obtain ⟨ar, har⟩ : ∃ ar, ar = getS ts s1 2 := ⟨_, rfl⟩
  have cs2 : ∀ W, RowAt W g n c ts → Calls Tryz.prog 22 #[.agg #[.slice (some ⟨g, 0, none⟩) n c, .int .i64 (s1.i : Int), .bool s1.bad], .int .u8 2] W (GetEnd g n c s2 ar W) := fun W h => by rw [hs2, har]; exact get_walk W g n c ts s1.i s1.bad 2 h ls1
  have ls2 : s2.i < n := by rw [hs2]; exact get_n hR (by decide) ls1
  have zar : ar.size ≤ 70000 := by rw [har]; exact getS_small hR s1 ls1 2
  rw [← hs2, ← har] at hF'
  have Cs2 := Lib.hid cs2; have Ls2 := Lib.hid ls2; have Zar := Lib.hid zar
  clear cs2 zar
  obtain ⟨r, hr, rfl⟩ := Option.map_eq_some_iff.1 hF'
  have hrl : r.1.i < n := parts_n hR ls2 hr
  have HR0 := Lib.hid hr; have HRL := Lib.hid hrl
  clear hr hrl hF' ls1 hs1 ls2 hs2 har
  have hps := ps_new w g n c ⟨i, false⟩ hs
  obtain ⟨s0, s1', s2'⟩ := (hR.below hps.below).toks i (by rw [hR.len]; exact hs)
  have hgl := World.block_lt_of_cell? _ _ s0
  simp only at hgl
  have hi1 : (i : Int) < (n : Int) := by omega
  have hi0 : (0 : Int) ≤ (i : Int) := by omega
  have hi2 : (i : Int) ≤ 70000 := by have := hR.small; omega
  have hpl : -9223372036854775808 ≤ ((tel ts i).a : Int) ∧ ((tel ts i).a : Int) ≤ 9223372036854775807 := by have := hR.places i hs; omega
  have hpa : plA ts i = ((tel ts i).a : Int) := rfl
  have hrow := fun W (hb : Below w.heap.size w W) => hR.below hb
  have htx := text_walk (((w.alloc (.cells #[.slice (some ⟨g, 0, none⟩) n c, .int .i64 (i : Int), .bool false] 56)).alloc (.cells #[.slice none 0 0, .int .i64 0, .bool false] 56)).alloc (.cells #[.int .u8 0, .int .u8 0, .int .i64 0, .int .i64 0, .string ⟨#[]⟩, .string ⟨#[]⟩, .string ⟨#[]⟩, .slice none 0 0] 29)) g n c ts i false (hR.below hps.below) hs
  have qwLet : ((textOf ts i).toList == [108, 101, 116]) = false := by rw [← etl_wLet]; rw [hw]; decide +kernel
  have qwLetrec : ((textOf ts i).toList == [108, 101, 116, 114, 101, 99]) = false := by rw [← etl_wLetrec]; rw [hw]; decide +kernel
  have qwFn : ((textOf ts i).toList == [102, 110]) = true := by rw [← etl_wFn]; exact str_yes hw
  have HW := Lib.hid hw
  clear hw
  have HPS := Lib.hid hps; have HTX := Lib.hid htx; have HROW := Lib.hid hrow; have HP := Lib.hid hP; have HLV := Lib.hid hL; have HR := Lib.hid hR; have HPL := Lib.hid hpl
  clear hps htx hrow hP hL hR hF hpl
  go_enter Tryz.func24, Tryz.ntmps24
  go_wp2_with (fail)
  refine HTX.out.mono ?_
  rintro e w2 ⟨rfl, hb2⟩
  have HPSa := Lib.hid ((HPS.out.call hb2).call ((al_new (W := w2) (.cells #[] 29)).trans ((al_new (.cells #[.int .u8 0, .int .u8 0, .int .i64 0, .int .i64 0, .string ⟨#[]⟩, .string ⟨#[]⟩, .string ⟨#[]⟩, .slice none 0 0] 29)).mono (al_new (W := w2) (.cells #[] 29)).size)))
  have hz7 : ((w2.alloc (.cells #[] 29)).alloc (.cells #[.int .u8 0, .int .u8 0, .int .i64 0, .int .i64 0, .string ⟨#[]⟩, .string ⟨#[]⟩, .string ⟨#[]⟩, .slice none 0 0] 29)).heap[w2.heap.size + 1]? = some (.cells #[.int .u8 0, .int .u8 0, .int .i64 0, .int .i64 0, .string ⟨#[]⟩, .string ⟨#[]⟩, .string ⟨#[]⟩, .slice none 0 0] 29 (0, 0)) := by rw [← show (w2.alloc (.cells #[] 29)).heap.size = w2.heap.size + 1 from by simp]; exact heap_alloc_new _ _
  have HZ7 := Lib.hid hz7
  have hsz2 : w.heap.size + 3 ≤ w2.heap.size := (HPS.out.call hb2).size
  clear hb2 HPS HTX s0 s1' s2' hgl hz7
  generalize hxx : textOf ts i = x at *
  clear hxx
  obtain ⟨⟨x0, x1, x2⟩, y0, y1, y2⟩ := cellsS HPSa.out.b1
  go_wp2_with (fail)
  refine (Cs1.out ((w2.alloc (.cells #[] 29)).alloc (.cells #[.int .u8 0, .int .u8 0, .int .i64 0, .int .i64 0, .string ⟨#[]⟩, .string ⟨#[]⟩, .string ⟨#[]⟩, .slice none 0 0] 29)) (HROW.out _ HPSa.out.below)).mono ?_
  rintro e w3 ⟨rfl, hb3⟩
  have HPS_3 := Lib.hid (HPSa.out.call hb3)
  have H7_3 := Lib.hid (bx_call HZ7.out hb3)
  clear hb3 x0 x1 x2 y0 y1 y2
  obtain ⟨⟨x0, x1, x2⟩, y0, y1, y2⟩ := cellsS HPS_3.out.b1
  go_wp2_with ((refine wpList_stS w.heap.size 1 77 (some ⟨g, 0, none⟩) n c s1.i s1.bad _ _ _ rfl rfl HPS_3.out.b1 ?_; intro w4 p4; have HPS_4 := Lib.hid (HPS_3.out.state (s' := s1) p4 Ls1.out); have H7_4 := Lib.hid (bx_put H7_3.out p4 (by omega)); clear p4; clear x0 x1 x2 y0 y1 y2; obtain ⟨⟨x0, x1, x2⟩, y0, y1, y2⟩ := cellsS HPS_4.out.b1))
  refine (Cs2.out w4 (HROW.out _ HPS_4.out.below)).mono ?_
  rintro e w5 ⟨rfl, hb5⟩
  have HPS_5 := Lib.hid (HPS_4.out.call hb5)
  have H7_5 := Lib.hid (bx_call H7_4.out hb5)
  clear hb5 x0 x1 x2 y0 y1 y2
  obtain ⟨⟨x0, x1, x2⟩, y0, y1, y2⟩ := cellsS HPS_5.out.b1
  go_wp2_with (first | (refine wpList_stS w.heap.size 1 81 (some ⟨g, 0, none⟩) n c s2.i s2.bad _ _ _ rfl rfl HPS_5.out.b1 ?_; intro w6 p6; have HPS_6 := Lib.hid (HPS_5.out.state (s' := s2) p6 Ls2.out); have H7_6 := Lib.hid (bx_put H7_5.out p6 (by omega)); clear p6; clear x0 x1 x2 y0 y1 y2; obtain ⟨⟨x0, x1, x2⟩, y0, y1, y2⟩ := cellsS HPS_6.out.b1) | (refine wpList_stF5 (w2.heap.size + 1) 84 (.tmp 82) ar _ _ _ _ _ _ _ _ rfl rfl H7_6.out ?_; intro w7 p7; have HPS_7 := Lib.hid (HPS_6.out.put p7 (by omega)); have H7_7 := Lib.hid p7.here; clear p7; clear x0 x1 x2 y0 y1 y2; obtain ⟨⟨x0, x1, x2⟩, y0, y1, y2⟩ := cellsS HPS_7.out.b1))
  have hal8 := al_new (W := w7) (.cells #[.string ⟨#[61, 62]⟩] 9)
  have HPS_8 := Lib.hid (HPS_7.out.call hal8)
  have H7_8 := Lib.hid (bx_call H7_7.out hal8)
  have hws8 : ∀ j, j < 1 → (w7.alloc (.cells #[.string ⟨#[61, 62]⟩] 9)).cell? ⟨w7.heap.size, j, none⟩ = some (.string (sel [wArrow] j)) := fun j hj => by
    have h1 := heap_alloc_new w7 (.cells #[.string ⟨#[61, 62]⟩] 9)
    have : j = 0 := by omega
    subst this <;> (unfold World.cell?; rw [h1]; rfl)
  have hbk8 : w7.heap.size < (w7.alloc (.cells #[.string ⟨#[61, 62]⟩] 9)).heap.size := lt_of_block (heap_alloc_new w7 (.cells #[.string ⟨#[61, 62]⟩] 9))
  have hpc8 := HP.out (w7.alloc (.cells #[.string ⟨#[61, 62]⟩] 9)) s2 [wArrow] w7.heap.size 1 r (HROW.out _ HPS_8.out.below) Ls2.out hws8 rfl (by omega) hbk8 HR0.out
  have HPC8 := Lib.hid hpc8
  clear hws8 hpc8 hbk8
  refine (HPC8.out).mono ?_
  rintro e w9 ⟨q', d, rfl, hRow, hb9⟩
  have HPS_9 := Lib.hid (HPS_8.out.call hb9)
  have H7_9 := Lib.hid (bx_call H7_8.out hb9)
  have HRW := Lib.hid (RowFr.new hRow)
  have hszr := lt_of_block H7_8.out
  clear hb9 x0 x1 x2 y0 y1 y2
  obtain ⟨⟨x0, x1, x2⟩, y0, y1, y2⟩ := cellsS HPS_9.out.b1
  go_wp2_with (first | (refine wpList_stS w.heap.size 1 89 (some ⟨g, 0, none⟩) n c r.1.i r.1.bad _ _ _ rfl rfl HPS_9.out.b1 ?_; intro w10 p10; have HPS_10 := Lib.hid (HPS_9.out.state (s' := r.1) p10 HRL.out); have H7_10 := Lib.hid (bx_put H7_9.out p10 (by omega)); have HRW_10 := Lib.hid (HRW.out.put p10 (.inl (by omega))); clear p10; clear x0 x1 x2 y0 y1 y2; obtain ⟨⟨x0, x1, x2⟩, y0, y1, y2⟩ := cellsS HPS_10.out.b1) | (refine wpList_stF0 (w2.heap.size + 1) 92 (.const (.int .u8 11)) 11 _ _ _ _ _ _ _ _ rfl rfl H7_10.out ?_; intro w11 p11; have HPS_11 := Lib.hid (HPS_10.out.put p11 (by omega)); have H7_11 := Lib.hid p11.here; have HRW_11 := Lib.hid (HRW_10.out.put p11 (.inl (by omega))); clear p11; clear x0 x1 x2 y0 y1 y2; obtain ⟨⟨x0, x1, x2⟩, y0, y1, y2⟩ := cellsS HPS_11.out.b1) | (refine wpList_stF2 (w2.heap.size + 1) 145 (.tmp 143) ((tel ts i).a : Int) _ _ _ _ _ _ _ _ rfl rfl H7_11.out ?_; intro w12 p12; have HPS_12 := Lib.hid (HPS_11.out.put p12 (by omega)); have H7_12 := Lib.hid p12.here; have HRW_12 := Lib.hid (HRW_11.out.put p12 (.inl (by omega))); clear p12; clear x0 x1 x2 y0 y1 y2; obtain ⟨⟨x0, x1, x2⟩, y0, y1, y2⟩ := cellsS HPS_12.out.b1) | (refine wpList_stF7 (w2.heap.size + 1) 147 (.tmp 146) q' r.2.length d _ _ _ _ _ _ _ _ rfl rfl H7_12.out ?_; intro w13 p13; have HPS_13 := Lib.hid (HPS_12.out.put p13 (by omega)); have H7_13 := Lib.hid p13.here; have HRW_13 := Lib.hid (HRW_12.out.put p13 (.inl (by omega))); clear p13; clear x0 x1 x2 y0 y1 y2; obtain ⟨⟨x0, x1, x2⟩, y0, y1, y2⟩ := cellsS HPS_13.out.b1))
  clear x0 x1 x2 y0 y1 y2
  have hini := EndV.of_ps HPS_13.out
  refine wp_region_held_drew (S := fun V => EndV w w13 V) (by kernel_rfl) hini (fun hHeld => ?_)
  have HE0 := Lib.hid hini
  clear hini
  generalize w13.drew = v0 at *
  refine wpAnyH_take (i := 0) (v := .agg #[.slice (some ⟨g, 0, none⟩) n c, .int .i64 r.1.i, .bool r.1.bad]) rfl (by kernel_rfl) (by kernel_rfl) (by kernel_rfl) (fun _ _ _ h => h) (Or.inl ⟨by rfl, ?_⟩) (by assumption) ?_
  · intro w' hSw
    obtain ⟨⟨g0, g1, g2⟩, d0, d1, d2⟩ := cellsS ((hSw.off _ (lt_of_block HPS_13.out.b1) (by omega) (by omega)).trans HPS_13.out.b1)
    first | (go_simp; done) | rfl | (go_simp; first | exact IntWalk.i64_in _ (by omega) | exact IntWalk.u8_in _ (by omega))
  try simp only [Act.put, List.getElem_toArray, List.getElem_cons_succ, List.getElem_cons_zero, List.setIfInBounds_toArray, List.set_cons_zero, List.set_cons_succ]
  refine wpAnyH_take (i := 1) (v := .agg #[.int .u8 11, .int .u8 0, .int .i64 ((tel ts i).a : Int), .int .i64 0, .string ⟨#[]⟩, .string ar, .string ⟨#[]⟩, .slice q' r.2.length d]) rfl (by kernel_rfl) (by kernel_rfl) (by kernel_rfl) (fun _ _ _ h => h) (Or.inl ⟨by rfl, ?_⟩) (by assumption) ?_
  · intro w' hSw
    obtain ⟨⟨g0, g1, g2, g3, g4, g5, g6, g7⟩, d0, d1, d2, d3, d4, d5, d6, d7⟩ := cells8' ((hSw.off _ (lt_of_block H7_13.out) (by omega) (by omega)).trans H7_13.out)
    first | (go_simp; done) | rfl | (go_simp; first | exact IntWalk.i64_in _ (by omega) | exact IntWalk.u8_in _ (by omega))
  try simp only [Act.put, List.getElem_toArray, List.getElem_cons_succ, List.getElem_cons_zero, List.setIfInBounds_toArray, List.set_cons_zero, List.set_cons_succ]
  refine wpAnyH_ready (rs := [2]) (by kernel_rfl) (by simp) ?_
  refine AllReadyH.cons rfl (fun K hK => ?_) AllReadyH.nil
  have HK2 := Lib.hid hK
  clear hK
  try rw [if_pos (by rfl)]
  obtain ⟨x1, x2, x3, hx2⟩ := HE0.out.s2
  refine wp_stS _ _ _ _ _ _ _ (w.heap.size + 1) _ _ (some ⟨g, 0, none⟩) n c r.1.i r.1.bad x1 x2 x3 rfl rfl hx2 (fun va pa => ?_)
  clear hx2
  have HEa := Lib.hid (HE0.out.two pa)
  have PA := Lib.hid pa
  clear pa
  refine HK2.out _ _ HEa.out (fun hHeld => ?_)
  clear HK2
  try simp only [Act.put, List.getElem_toArray, List.getElem_cons_succ, List.getElem_cons_zero, List.setIfInBounds_toArray, List.set_cons_zero, List.set_cons_succ]
  clear K
  refine wpAnyH_ready (rs := [3]) (by kernel_rfl) (by simp) ?_
  refine AllReadyH.cons rfl (fun K hK => ?_) AllReadyH.nil
  have HK2 := Lib.hid hK
  clear hK
  try rw [if_pos (by rfl)]
  obtain ⟨y1, y2, y3, y4, y5, y6, y7, y8, hy3⟩ := HEa.out.s3
  refine wp_stT _ _ _ _ _ _ _ (w.heap.size + 1 + 1) _ _ 11 0 ((tel ts i).a : Int) 0 ⟨#[]⟩ ar ⟨#[]⟩ q' r.2.length d y1 y2 y3 y4 y5 y6 y7 y8 rfl rfl hy3 (fun vb pb => ?_)
  clear hy3
  have HEb := Lib.hid (HEa.out.three pb)
  have PB := Lib.hid pb
  clear pb
  refine HK2.out _ _ HEb.out (fun hHeld => ?_)
  clear HK2
  try simp only [Act.put, List.getElem_toArray, List.getElem_cons_succ, List.getElem_cons_zero, List.setIfInBounds_toArray, List.set_cons_zero, List.set_cons_succ]
  clear K
  refine wpAnyH_done (by kernel_rfl) ?_ _
  clear hHeld
  have htm := nodeR (h' := ⟨11, 0, ((tel ts i).a : Int), 0, ⟨#[]⟩, ar, ⟨#[]⟩⟩) HRW_13.out (by omega) HEb.out (dhd_any (by omega) HPL.out (by omega) e_small Zar.out e_small)
  have hr2 := (PB.out.off (w.heap.size + 1) (by omega)).trans PA.out.here
  have hr3 := PB.out.here
  obtain ⟨⟨r0, r1, r2⟩, d0, d1, d2⟩ := cellsS hr2
  obtain ⟨⟨g0, g1, g2, g3, g4, g5, g6, g7⟩, e0, e1, e2, e3, e4, e5, e6, e7⟩ := cells8' hr3
  have rl2 := lt_of_block hr2
  have rl3 := lt_of_block hr3
  have HTM := Lib.hid htm
  clear htm hr2 hr3
  go_wp2_with (fail)
  refine bodyPost_ret (v := .tuple #[.agg #[.slice (some ⟨g, 0, none⟩) n c, .int .i64 r.1.i, .bool r.1.bad], .agg #[.int .u8 11, .int .u8 0, .int .i64 ((tel ts i).a : Int), .int .i64 0, .string ⟨#[]⟩, .string ar, .string ⟨#[]⟩, .slice q' r.2.length d]]) (by simp [results, Tryz.results24, go_sem, r0, r1, r2, g0, g1, g2, g3, g4, g5, g6, g7, rl2, rl3]) rfl ⟨⟨11, 0, ((tel ts i).a : Int), 0, ⟨#[]⟩, ar, ⟨#[]⟩⟩, q', r.2.length, d, rfl, HTM.out, HEb.out.below⟩
end Parse
end Go.Proofs.YtadpjkehflokcaaGreatDoor
