/- The document's parser: an expression. (Written by wip/tools/expr.py.) -/
import Derived.Test.YtadpjkehflokcaaGreatDoorGParseV
namespace Go.Proofs.YtadpjkehflokcaaGreatDoor
open Go.RowKit
set_option linter.unusedVariables false
set_option linter.unusedSimpArgs false
namespace Parse
open Token (Tok tel ToksAt)
open Term (Tm Hd TmIs Flat tcells veil Reads HdOk Kids)
open Words (str_no str_yes sel)

set_option maxRecDepth 100000 in
set_option maxHeartbeats 51200000 in
theorem dex_if (g n c : Nat) (ts : List Tok) (m : Nat) (hP : DParts (partsF ts m) g n c ts) (hL : DLevel (levelF ts m 0) 0 g n c ts) (w : World) (i : Nat) (R : St × Tm) (hR : RowAt w g n c ts) (hs : i < n) (hw : textOf ts i = wIf) (hF : exprF ts (m + 1) ⟨i, false⟩ = some R) :
    Calls Tryz.prog 24 #[.agg #[.slice (some ⟨g, 0, none⟩) n c, .int .i64 (i : Int), .bool false]] w (DEnd g n c R w) := by
  have hF' : (partsF ts m [e0, wThen, wElse] (wantF ts ⟨i, false⟩ wIf)).map (fun r => (r.1, Tm.node ⟨14, 0, plA ts i, 0, ⟨#[]⟩, ⟨#[]⟩, ⟨#[]⟩⟩ r.2)) = some R := by
    have e : exprF ts (m + 1) ⟨i, false⟩ = (partsF ts m [e0, wThen, wElse] (wantF ts ⟨i, false⟩ wIf)).map (fun r => (r.1, Tm.node ⟨14, 0, plA ts i, 0, ⟨#[]⟩, ⟨#[]⟩, ⟨#[]⟩⟩ r.2)) := by
      rw [exprF]
      simp only [Bool.false_eq_true, if_false]
      rw [if_neg (by rw [hw]; decide), if_neg (by rw [hw]; decide), if_neg (by rw [hw]; decide), if_pos hw]
    rw [← e]; exact hF
  obtain ⟨s1, hs1⟩ : ∃ s1, s1 = wantF ts ⟨i, false⟩ wIf := ⟨_, rfl⟩
  have cs1 : ∀ W, RowAt W g n c ts → Calls Tryz.prog 23 #[.agg #[.slice (some ⟨g, 0, none⟩) n c, .int .i64 (i : Int), .bool false], .string ⟨#[105, 102]⟩] W (StEnd g n c s1 W) := fun W h => by rw [hs1]; exact want_walk W g n c ts i false wIf h hs
  have ls1 : s1.i < n := by rw [hs1]; exact want_n hR (by decide) hs
  rw [← hs1] at hF'
  have Cs1 := Lib.hid cs1; have Ls1 := Lib.hid ls1
  clear cs1
  obtain ⟨r, hr, rfl⟩ := Option.map_eq_some_iff.1 hF'
  have hrl : r.1.i < n := parts_n hR ls1 hr
  have HR0 := Lib.hid hr; have HRL := Lib.hid hrl
  clear hr hrl hF' ls1 hs1 
  have hps := ps_new w g n c ⟨i, false⟩ hs
  obtain ⟨s0, s1', s2'⟩ := (hR.below hps.below).toks i (by rw [hR.len]; exact hs)
  have hgl := World.block_lt_of_cell? _ _ s0
  simp only at hgl
  have hi1 : (i : Int) < (n : Int) := by omega
  have hi0 : (0 : Int) ≤ (i : Int) := by omega
  have hi2 : (i : Int) ≤ 70000 := by have := hR.small; omega
  have hpl : -9223372036854775808 ≤ ((tel ts i).a : Int) ∧ ((tel ts i).a : Int) ≤ 9223372036854775807 := by have := hR.places i hs; omega
  have hpa : plA ts i = ((tel ts i).a : Int) := rfl
  have hrow := fun W (hb : Below w.heap.size w W) => hR.below hb
  have htx := text_walk (((w.alloc (.cells #[.slice (some ⟨g, 0, none⟩) n c, .int .i64 (i : Int), .bool false] 56)).alloc (.cells #[.slice none 0 0, .int .i64 0, .bool false] 56)).alloc (.cells #[.int .u8 0, .int .u8 0, .int .i64 0, .int .i64 0, .string ⟨#[]⟩, .string ⟨#[]⟩, .string ⟨#[]⟩, .slice none 0 0] 29)) g n c ts i false (hR.below hps.below) hs
  have qwLet : ((textOf ts i).toList == [108, 101, 116]) = false := by rw [← etl_wLet]; rw [hw]; decide +kernel
  have qwLetrec : ((textOf ts i).toList == [108, 101, 116, 114, 101, 99]) = false := by rw [← etl_wLetrec]; rw [hw]; decide +kernel
  have qwFn : ((textOf ts i).toList == [102, 110]) = false := by rw [← etl_wFn]; rw [hw]; decide +kernel
  have qwIf : ((textOf ts i).toList == [105, 102]) = true := by rw [← etl_wIf]; exact str_yes hw
  have HW := Lib.hid hw
  clear hw
  have HPS := Lib.hid hps; have HTX := Lib.hid htx; have HROW := Lib.hid hrow; have HP := Lib.hid hP; have HLV := Lib.hid hL; have HR := Lib.hid hR; have HPL := Lib.hid hpl
  clear hps htx hrow hP hL hR hF hpl
  go_enter Tryz.func24, Tryz.ntmps24
  go_wp2_with (fail)
  refine HTX.out.mono ?_
  rintro e w2 ⟨rfl, hb2⟩
  have HPSa := Lib.hid ((HPS.out.call hb2).call ((al_new (W := w2) (.cells #[] 29)).trans ((al_new (.cells #[.int .u8 0, .int .u8 0, .int .i64 0, .int .i64 0, .string ⟨#[]⟩, .string ⟨#[]⟩, .string ⟨#[]⟩, .slice none 0 0] 29)).mono (al_new (W := w2) (.cells #[] 29)).size)))
  have hz7 : ((w2.alloc (.cells #[] 29)).alloc (.cells #[.int .u8 0, .int .u8 0, .int .i64 0, .int .i64 0, .string ⟨#[]⟩, .string ⟨#[]⟩, .string ⟨#[]⟩, .slice none 0 0] 29)).heap[w2.heap.size + 1]? = some (.cells #[.int .u8 0, .int .u8 0, .int .i64 0, .int .i64 0, .string ⟨#[]⟩, .string ⟨#[]⟩, .string ⟨#[]⟩, .slice none 0 0] 29 (0, 0)) := by rw [← show (w2.alloc (.cells #[] 29)).heap.size = w2.heap.size + 1 from by simp]; exact heap_alloc_new _ _
  have HZ7 := Lib.hid hz7
  have hsz2 : w.heap.size + 3 ≤ w2.heap.size := (HPS.out.call hb2).size
  clear hb2 HPS HTX s0 s1' s2' hgl hz7
  generalize hxx : textOf ts i = x at *
  clear hxx
  obtain ⟨⟨x0, x1, x2⟩, y0, y1, y2⟩ := cellsS HPSa.out.b1
  go_wp2_with (fail)
  refine (Cs1.out ((w2.alloc (.cells #[] 29)).alloc (.cells #[.int .u8 0, .int .u8 0, .int .i64 0, .int .i64 0, .string ⟨#[]⟩, .string ⟨#[]⟩, .string ⟨#[]⟩, .slice none 0 0] 29)) (HROW.out _ HPSa.out.below)).mono ?_
  rintro e w3 ⟨rfl, hb3⟩
  have HPS_3 := Lib.hid (HPSa.out.call hb3)
  have H7_3 := Lib.hid (bx_call HZ7.out hb3)
  clear hb3 x0 x1 x2 y0 y1 y2
  obtain ⟨⟨x0, x1, x2⟩, y0, y1, y2⟩ := cellsS HPS_3.out.b1
  go_wp2_with ((refine wpList_stS w.heap.size 1 96 (some ⟨g, 0, none⟩) n c s1.i s1.bad _ _ _ rfl rfl HPS_3.out.b1 ?_; intro w4 p4; have HPS_4 := Lib.hid (HPS_3.out.state (s' := s1) p4 Ls1.out); have H7_4 := Lib.hid (bx_put H7_3.out p4 (by omega)); clear p4; clear x0 x1 x2 y0 y1 y2; obtain ⟨⟨x0, x1, x2⟩, y0, y1, y2⟩ := cellsS HPS_4.out.b1))
  have hal5 := al_new (W := w4) (.cells #[.string ⟨#[]⟩, .string ⟨#[116, 104, 101, 110]⟩, .string ⟨#[101, 108, 115, 101]⟩] 9)
  have HPS_5 := Lib.hid (HPS_4.out.call hal5)
  have H7_5 := Lib.hid (bx_call H7_4.out hal5)
  have hws5 : ∀ j, j < 3 → (w4.alloc (.cells #[.string ⟨#[]⟩, .string ⟨#[116, 104, 101, 110]⟩, .string ⟨#[101, 108, 115, 101]⟩] 9)).cell? ⟨w4.heap.size, j, none⟩ = some (.string (sel [e0, wThen, wElse] j)) := fun j hj => by
    have h1 := heap_alloc_new w4 (.cells #[.string ⟨#[]⟩, .string ⟨#[116, 104, 101, 110]⟩, .string ⟨#[101, 108, 115, 101]⟩] 9)
    have : j = 0 ∨ j = 1 ∨ j = 2 := by omega
    rcases this with rfl | rfl | rfl <;> (unfold World.cell?; rw [h1]; rfl)
  have hbk5 : w4.heap.size < (w4.alloc (.cells #[.string ⟨#[]⟩, .string ⟨#[116, 104, 101, 110]⟩, .string ⟨#[101, 108, 115, 101]⟩] 9)).heap.size := lt_of_block (heap_alloc_new w4 (.cells #[.string ⟨#[]⟩, .string ⟨#[116, 104, 101, 110]⟩, .string ⟨#[101, 108, 115, 101]⟩] 9))
  have hpc5 := HP.out (w4.alloc (.cells #[.string ⟨#[]⟩, .string ⟨#[116, 104, 101, 110]⟩, .string ⟨#[101, 108, 115, 101]⟩] 9)) s1 [e0, wThen, wElse] w4.heap.size 3 r (HROW.out _ HPS_5.out.below) Ls1.out hws5 rfl (by omega) hbk5 HR0.out
  have HPC5 := Lib.hid hpc5
  clear hws5 hpc5 hbk5
  refine (HPC5.out).mono ?_
  rintro e w6 ⟨q', d, rfl, hRow, hb6⟩
  have HPS_6 := Lib.hid (HPS_5.out.call hb6)
  have H7_6 := Lib.hid (bx_call H7_5.out hb6)
  have HRW := Lib.hid (RowFr.new hRow)
  have hszr := lt_of_block H7_5.out
  clear hb6 x0 x1 x2 y0 y1 y2
  obtain ⟨⟨x0, x1, x2⟩, y0, y1, y2⟩ := cellsS HPS_6.out.b1
  go_wp2_with (first | (refine wpList_stS w.heap.size 1 101 (some ⟨g, 0, none⟩) n c r.1.i r.1.bad _ _ _ rfl rfl HPS_6.out.b1 ?_; intro w7 p7; have HPS_7 := Lib.hid (HPS_6.out.state (s' := r.1) p7 HRL.out); have H7_7 := Lib.hid (bx_put H7_6.out p7 (by omega)); have HRW_7 := Lib.hid (HRW.out.put p7 (.inl (by omega))); clear p7; clear x0 x1 x2 y0 y1 y2; obtain ⟨⟨x0, x1, x2⟩, y0, y1, y2⟩ := cellsS HPS_7.out.b1) | (refine wpList_stF0 (w2.heap.size + 1) 104 (.const (.int .u8 14)) 14 _ _ _ _ _ _ _ _ rfl rfl H7_7.out ?_; intro w8 p8; have HPS_8 := Lib.hid (HPS_7.out.put p8 (by omega)); have H7_8 := Lib.hid p8.here; have HRW_8 := Lib.hid (HRW_7.out.put p8 (.inl (by omega))); clear p8; clear x0 x1 x2 y0 y1 y2; obtain ⟨⟨x0, x1, x2⟩, y0, y1, y2⟩ := cellsS HPS_8.out.b1) | (refine wpList_stF2 (w2.heap.size + 1) 145 (.tmp 143) ((tel ts i).a : Int) _ _ _ _ _ _ _ _ rfl rfl H7_8.out ?_; intro w9 p9; have HPS_9 := Lib.hid (HPS_8.out.put p9 (by omega)); have H7_9 := Lib.hid p9.here; have HRW_9 := Lib.hid (HRW_8.out.put p9 (.inl (by omega))); clear p9; clear x0 x1 x2 y0 y1 y2; obtain ⟨⟨x0, x1, x2⟩, y0, y1, y2⟩ := cellsS HPS_9.out.b1) | (refine wpList_stF7 (w2.heap.size + 1) 147 (.tmp 146) q' r.2.length d _ _ _ _ _ _ _ _ rfl rfl H7_9.out ?_; intro w10 p10; have HPS_10 := Lib.hid (HPS_9.out.put p10 (by omega)); have H7_10 := Lib.hid p10.here; have HRW_10 := Lib.hid (HRW_9.out.put p10 (.inl (by omega))); clear p10; clear x0 x1 x2 y0 y1 y2; obtain ⟨⟨x0, x1, x2⟩, y0, y1, y2⟩ := cellsS HPS_10.out.b1))
  clear x0 x1 x2 y0 y1 y2
  have hini := EndV.of_ps HPS_10.out
  refine wp_region_held_drew (S := fun V => EndV w w10 V) (by kernel_rfl) hini (fun hHeld => ?_)
  have HE0 := Lib.hid hini
  clear hini
  generalize w10.drew = v0 at *
  refine wpAnyH_take (i := 0) (v := .agg #[.slice (some ⟨g, 0, none⟩) n c, .int .i64 r.1.i, .bool r.1.bad]) rfl (by kernel_rfl) (by kernel_rfl) (by kernel_rfl) (fun _ _ _ h => h) (Or.inl ⟨by rfl, ?_⟩) (by assumption) ?_
  · intro w' hSw
    obtain ⟨⟨g0, g1, g2⟩, d0, d1, d2⟩ := cellsS ((hSw.off _ (lt_of_block HPS_10.out.b1) (by omega) (by omega)).trans HPS_10.out.b1)
    first | (go_simp; done) | rfl | (go_simp; first | exact IntWalk.i64_in _ (by omega) | exact IntWalk.u8_in _ (by omega))
  try simp only [Act.put, List.getElem_toArray, List.getElem_cons_succ, List.getElem_cons_zero, List.setIfInBounds_toArray, List.set_cons_zero, List.set_cons_succ]
  refine wpAnyH_take (i := 1) (v := .agg #[.int .u8 14, .int .u8 0, .int .i64 ((tel ts i).a : Int), .int .i64 0, .string ⟨#[]⟩, .string ⟨#[]⟩, .string ⟨#[]⟩, .slice q' r.2.length d]) rfl (by kernel_rfl) (by kernel_rfl) (by kernel_rfl) (fun _ _ _ h => h) (Or.inl ⟨by rfl, ?_⟩) (by assumption) ?_
  · intro w' hSw
    obtain ⟨⟨g0, g1, g2, g3, g4, g5, g6, g7⟩, d0, d1, d2, d3, d4, d5, d6, d7⟩ := cells8' ((hSw.off _ (lt_of_block H7_10.out) (by omega) (by omega)).trans H7_10.out)
    first | (go_simp; done) | rfl | (go_simp; first | exact IntWalk.i64_in _ (by omega) | exact IntWalk.u8_in _ (by omega))
  try simp only [Act.put, List.getElem_toArray, List.getElem_cons_succ, List.getElem_cons_zero, List.setIfInBounds_toArray, List.set_cons_zero, List.set_cons_succ]
  refine wpAnyH_ready (rs := [2]) (by kernel_rfl) (by simp) ?_
  refine AllReadyH.cons rfl (fun K hK => ?_) AllReadyH.nil
  have HK2 := Lib.hid hK
  clear hK
  try rw [if_pos (by rfl)]
  obtain ⟨x1, x2, x3, hx2⟩ := HE0.out.s2
  refine wp_stS _ _ _ _ _ _ _ (w.heap.size + 1) _ _ (some ⟨g, 0, none⟩) n c r.1.i r.1.bad x1 x2 x3 rfl rfl hx2 (fun va pa => ?_)
  clear hx2
  have HEa := Lib.hid (HE0.out.two pa)
  have PA := Lib.hid pa
  clear pa
  refine HK2.out _ _ HEa.out (fun hHeld => ?_)
  clear HK2
  try simp only [Act.put, List.getElem_toArray, List.getElem_cons_succ, List.getElem_cons_zero, List.setIfInBounds_toArray, List.set_cons_zero, List.set_cons_succ]
  clear K
  refine wpAnyH_ready (rs := [3]) (by kernel_rfl) (by simp) ?_
  refine AllReadyH.cons rfl (fun K hK => ?_) AllReadyH.nil
  have HK2 := Lib.hid hK
  clear hK
  try rw [if_pos (by rfl)]
  obtain ⟨y1, y2, y3, y4, y5, y6, y7, y8, hy3⟩ := HEa.out.s3
  refine wp_stT _ _ _ _ _ _ _ (w.heap.size + 1 + 1) _ _ 14 0 ((tel ts i).a : Int) 0 ⟨#[]⟩ ⟨#[]⟩ ⟨#[]⟩ q' r.2.length d y1 y2 y3 y4 y5 y6 y7 y8 rfl rfl hy3 (fun vb pb => ?_)
  clear hy3
  have HEb := Lib.hid (HEa.out.three pb)
  have PB := Lib.hid pb
  clear pb
  refine HK2.out _ _ HEb.out (fun hHeld => ?_)
  clear HK2
  try simp only [Act.put, List.getElem_toArray, List.getElem_cons_succ, List.getElem_cons_zero, List.setIfInBounds_toArray, List.set_cons_zero, List.set_cons_succ]
  clear K
  refine wpAnyH_done (by kernel_rfl) ?_ _
  clear hHeld
  have htm := nodeR (h' := ⟨14, 0, ((tel ts i).a : Int), 0, ⟨#[]⟩, ⟨#[]⟩, ⟨#[]⟩⟩) HRW_10.out (by omega) HEb.out (dhd_any (by omega) HPL.out (by omega) e_small e_small e_small)
  have hr2 := (PB.out.off (w.heap.size + 1) (by omega)).trans PA.out.here
  have hr3 := PB.out.here
  obtain ⟨⟨r0, r1, r2⟩, d0, d1, d2⟩ := cellsS hr2
  obtain ⟨⟨g0, g1, g2, g3, g4, g5, g6, g7⟩, e0, e1, e2, e3, e4, e5, e6, e7⟩ := cells8' hr3
  have rl2 := lt_of_block hr2
  have rl3 := lt_of_block hr3
  have HTM := Lib.hid htm
  clear htm hr2 hr3
  go_wp2_with (fail)
  refine bodyPost_ret (v := .tuple #[.agg #[.slice (some ⟨g, 0, none⟩) n c, .int .i64 r.1.i, .bool r.1.bad], .agg #[.int .u8 14, .int .u8 0, .int .i64 ((tel ts i).a : Int), .int .i64 0, .string ⟨#[]⟩, .string ⟨#[]⟩, .string ⟨#[]⟩, .slice q' r.2.length d]]) (by simp [results, Tryz.results24, go_sem, r0, r1, r2, g0, g1, g2, g3, g4, g5, g6, g7, rl2, rl3]) rfl ⟨⟨14, 0, ((tel ts i).a : Int), 0, ⟨#[]⟩, ⟨#[]⟩, ⟨#[]⟩⟩, q', r.2.length, d, rfl, HTM.out, HEb.out.below⟩
end Parse
end Go.Proofs.YtadpjkehflokcaaGreatDoor
