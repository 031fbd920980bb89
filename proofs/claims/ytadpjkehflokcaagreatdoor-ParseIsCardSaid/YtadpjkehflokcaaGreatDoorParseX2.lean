/- The document's parser: a term. (Written by wip/tools/dterm.py.) -/
import Derived.Test.YtadpjkehflokcaaGreatDoorGParseX
import Derived.Test.YtadpjkehflokcaaGreatDoorGParseR
namespace Go.Proofs.YtadpjkehflokcaaGreatDoor
open Go.RowKit
set_option linter.unusedVariables false
set_option linter.unusedSimpArgs false
namespace Parse
open Token (Tok tel ToksAt BytesIn lex endT)
open Term (Tm Hd TmIs Flat tcells veil Reads HdOk Kids)

theorem la : type_of% @List.getElem_toArray := @List.getElem_toArray
theorem lb : type_of% @List.getElem_cons_succ := @List.getElem_cons_succ
theorem lc : type_of% @List.getElem_cons_zero := @List.getElem_cons_zero
theorem ld : type_of% @List.setIfInBounds_toArray := @List.setIfInBounds_toArray
theorem le : type_of% @List.set_cons_zero := @List.set_cons_zero
theorem lf : type_of% @List.set_cons_succ := @List.set_cons_succ
set_option maxRecDepth 100000 in
set_option maxHeartbeats 51200000 in
theorem termD_walk (p : Option Addr) (n d : Nat) (xs : List Int) (w : World) (hb : BytesIn w p n d xs) (hfew : ∀ ts, lex xs 0 = .inr ts → ts.length + 1 ≤ 4001) :
    Calls Tryz.prog 9 #[.slice p n d] w (TermRet (termRes xs) w) := by
  have ha := al_new (W := w) (.cells #[.int .u8 0, .int .u8 0, .int .i64 0, .int .i64 0, .string ⟨#[]⟩, .string ⟨#[]⟩, .string ⟨#[]⟩, .slice none 0 0] 29)
  have hbg := begin_walk p n d xs (w.alloc (.cells #[.int .u8 0, .int .u8 0, .int .i64 0, .int .i64 0, .string ⟨#[]⟩, .string ⟨#[]⟩, .string ⟨#[]⟩, .slice none 0 0] 29)) (hb.below ha) hfew
  have hbx := heap_alloc_new w (.cells #[.int .u8 0, .int .u8 0, .int .i64 0, .int .i64 0, .string ⟨#[]⟩, .string ⟨#[]⟩, .string ⟨#[]⟩, .slice none 0 0] 29)
  have HBG := Lib.hid hbg; have HA := Lib.hid ha; have HBX := Lib.hid hbx
  clear ha hbg hbx hb
  go_enter Tryz.func9, Tryz.ntmps9
  go_wp2_with (fail)
  refine HBG.out.mono ?_
  rintro e w1 ⟨hb1, h⟩
  have hB1 : Below w.heap.size w w1 := HA.out.trans (hb1.mono HA.out.size)
  have hx1 := bx_call HBX.out hb1
  have hz1 := lt_of_block hx1
  rcases h with ⟨hlen, rfl⟩ | ⟨hlen, k, hk, rfl⟩ | ⟨hlen, ts, g, c, hlx, rfl, hR⟩
  · clear hfew
    have hres : termRes xs = .bad 0 3 := by unfold termRes; rw [if_pos hlen]
    have HRES := Lib.hid hres; have HX1 := Lib.hid (bx_call hx1 (al_new (.cells #[.slice none 0 0, .int .i64 0, .bool false] 56))); have HB1 := Lib.hid (hB1.trans ((al_new (W := w1) (.cells #[.slice none 0 0, .int .i64 0, .bool false] 56)).mono hB1.size))
    clear hres hx1 hB1 hb1 HBG HA HBX
    go_wp2_with (refine wpList_stT w.heap.size 2 17 0 0 0 0 ⟨#[]⟩ ⟨#[]⟩ ⟨#[]⟩ none 0 0 _ _ _ _ _ _ _ _ rfl rfl HX1.out ?_; intro w4 p4; have P4 := Lib.hid p4; clear p4)
    have hr3 := P4.out.here
    obtain ⟨⟨g0, g1, g2, g3, g4, g5, g6, g7⟩, f0, f1, f2, f3, f4, f5, f6, f7⟩ := cells8' hr3
    have rl3 := lt_of_block hr3
    clear hr3
    refine bodyPost_ret (v := .tuple #[.agg #[.int .u8 0, .int .u8 0, .int .i64 0, .int .i64 0, .string ⟨#[]⟩, .string ⟨#[]⟩, .string ⟨#[]⟩, .slice none 0 0], .int .i64 0, .int .i64 3]) (by simp [results, Tryz.results9, go_sem, g0, g1, g2, g3, g4, g5, g6, g7, rl3]) rfl ⟨P4.out.below HB1.out (Nat.le_refl _), .inl ⟨_, _, HRES.out, rfl⟩⟩
  · clear hfew
    have hres : termRes xs = .bad (k : Int) 2 := by unfold termRes; rw [if_neg (by omega), hk]
    have HRES := Lib.hid hres; have HX1 := Lib.hid (bx_call hx1 (al_new (.cells #[.slice none 0 0, .int .i64 0, .bool false] 56))); have HB1 := Lib.hid (hB1.trans ((al_new (W := w1) (.cells #[.slice none 0 0, .int .i64 0, .bool false] 56)).mono hB1.size))
    clear hk hres hx1 hB1 hb1 HBG HA HBX
    go_wp2_with (refine wpList_stT w.heap.size 2 17 0 0 0 0 ⟨#[]⟩ ⟨#[]⟩ ⟨#[]⟩ none 0 0 _ _ _ _ _ _ _ _ rfl rfl HX1.out ?_; intro w4 p4; have P4 := Lib.hid p4; clear p4)
    have hr3 := P4.out.here
    obtain ⟨⟨g0, g1, g2, g3, g4, g5, g6, g7⟩, f0, f1, f2, f3, f4, f5, f6, f7⟩ := cells8' hr3
    have rl3 := lt_of_block hr3
    clear hr3
    refine bodyPost_ret (v := .tuple #[.agg #[.int .u8 0, .int .u8 0, .int .i64 0, .int .i64 0, .string ⟨#[]⟩, .string ⟨#[]⟩, .string ⟨#[]⟩, .slice none 0 0], .int .i64 (k : Int), .int .i64 2]) (by simp [results, Tryz.results9, go_sem, g0, g1, g2, g3, g4, g5, g6, g7, rl3]) rfl ⟨P4.out.below HB1.out (Nat.le_refl _), .inl ⟨_, _, HRES.out, rfl⟩⟩
  · have hf := hfew ts hlx
    clear hfew
    have hgn : g ≠ w.heap.size := by
      have h0 := (hR.toks 0 (by rw [hR.len]; omega)).2.1
      intro e
      rw [e] at h0
      unfold World.cell? at h0
      rw [hx1] at h0
      simp at h0
    have HGN := Lib.hid hgn
    clear hgn
    obtain ⟨T, hT⟩ : ∃ T, T = ts ++ [endT xs.length] := ⟨_, rfl⟩
    rw [← hT] at hR
    obtain ⟨r, hr⟩ := enough0 hR.row
    have hrl : r.1.i < ts.length + 1 := expr_n hR (s := ⟨0, false⟩) (by show 0 < ts.length + 1; omega) hr
    have hres0 : termRes xs = if r.1.bad = false ∧ (tel T r.1.i).k = 6 then .good r.2 else .bad (tel T r.1.i).a 2 := by
      unfold termRes
      rw [if_neg (by omega), hlx]
      show toksRes ts xs.length = _
      unfold toksRes
      rw [if_neg (by omega), ← hT, hr]
      rfl
    clear hT hf
    cases hbd : r.1.bad with
    | true =>
      have hres : termRes xs = .bad (tel T r.1.i).a 2 := by rw [hres0, if_neg (by rw [hbd]; simp)]
      clear hres0
      have hx := expr_doc g (ts.length + 1) c T (fuelOf T) (w1.alloc (.cells #[.slice (some ⟨g, 0, none⟩) (ts.length + 1) c, .int .i64 0, .bool false] 56)) ⟨0, false⟩ r (hR.below (al_new _)) (by show 0 < ts.length + 1; omega) hr
      have hx' : Calls Tryz.prog 24 #[.agg #[.slice (some ⟨g, 0, none⟩) (ts.length + 1) c, .int .i64 0, .bool false]] (w1.alloc (.cells #[.slice (some ⟨g, 0, none⟩) (ts.length + 1) c, .int .i64 0, .bool false] 56)) (DEnd g (ts.length + 1) c r (w1.alloc (.cells #[.slice (some ⟨g, 0, none⟩) (ts.length + 1) c, .int .i64 0, .bool false] 56))) := hx
      have htk := fun W (hq : Below w1.heap.size w1 W) => (hR.below hq).toks r.1.i (by rw [hR.len]; exact hrl)
      have hri1 : (r.1.i : Int) < ((ts.length + 1 : Nat) : Int) := by omega
      have hri0 : (0 : Int) ≤ (r.1.i : Int) := by omega
      have hri2 : (r.1.i : Int) < (ts.length : Int) + 1 := by omega
      have HTK := Lib.hid htk
      clear htk
      have HEX := Lib.hid hx'; have HR := Lib.hid hR; have HB1 := Lib.hid hB1; have HX1 := Lib.hid hx1; have HRL := Lib.hid hrl; have HRES := Lib.hid hres; have HBD := Lib.hid hbd
      clear hx hx' hr hR hB1 hx1 hres hbd hb1 HBG HA HBX hlx hrl
      go_wp2_with (fail)
      refine HEX.out.mono ?_
      rintro e w2 ⟨h, q, l, d', rfl, hT2, hb2⟩
      have hq2 : Below w1.heap.size w1 w2 := (al_new (W := w1) (.cells #[.slice (some ⟨g, 0, none⟩) (ts.length + 1) c, .int .i64 0, .bool false] 56)).trans (hb2.mono (al_new (W := w1) (.cells #[.slice (some ⟨g, 0, none⟩) (ts.length + 1) c, .int .i64 0, .bool false] 56)).size)
      have HQ3 := Lib.hid (hq2.trans ((al_new (W := w2) (.cells #[.int .u8 0, .int .u8 0, .int .i64 0, .int .i64 0, .string ⟨#[]⟩, .string ⟨#[]⟩, .string ⟨#[]⟩, .slice none 0 0] 29)).mono hq2.size))
      have HY5 := Lib.hid (bx_call (bx_call (heap_alloc_new w1 (.cells #[.slice (some ⟨g, 0, none⟩) (ts.length + 1) c, .int .i64 0, .bool false] 56)) hb2) (al_new (.cells #[.int .u8 0, .int .u8 0, .int .i64 0, .int .i64 0, .string ⟨#[]⟩, .string ⟨#[]⟩, .string ⟨#[]⟩, .slice none 0 0] 29)))
      have HZ8 := Lib.hid (heap_alloc_new w2 (.cells #[.int .u8 0, .int .u8 0, .int .i64 0, .int .i64 0, .string ⟨#[]⟩, .string ⟨#[]⟩, .string ⟨#[]⟩, .slice none 0 0] 29))
      have HTF := Lib.hid ((TmFr.new hT2).call (al_new (.cells #[.int .u8 0, .int .u8 0, .int .i64 0, .int .i64 0, .string ⟨#[]⟩, .string ⟨#[]⟩, .string ⟨#[]⟩, .slice none 0 0] 29)))
      have hz2 : w1.heap.size + 1 ≤ w2.heap.size := by have := hb2.size; simpa using this
      have hzB : w1.heap.size < (w1.alloc (.cells #[.slice (some ⟨g, 0, none⟩) (ts.length + 1) c, .int .i64 0, .bool false] 56)).heap.size := by simp
      have HZB := Lib.hid hzB
      clear hT2 hb2 hq2 hzB HEX
      go_upto_region 5 with (first | (refine wpList_stS w1.heap.size 5 23 (some ⟨g, 0, none⟩) (ts.length + 1) c r.1.i r.1.bad _ _ _ rfl rfl HY5.out ?_; intro w3 p3; have HQ4 := Lib.hid (p3.below HQ3.out (Nat.le_refl _)); have HY6 := Lib.hid p3.here; have HZ9 := Lib.hid (bx_put HZ8.out p3 (by omega)); have HTG := Lib.hid (HTF.out.put p3 (.inl HZB.out)); clear p3) | (refine wpList_stT w2.heap.size 8 24 h.k h.op h.pl h.n h.name h.arg h.exn q l d' _ _ _ _ _ _ _ _ rfl rfl HZ9.out ?_; intro w4 p4; have HQ5 := Lib.hid (p4.below HQ4.out (by omega)); have HY7 := Lib.hid (bx_put HY6.out p4 (by omega)); have HZ10 := Lib.hid p4.here; have HTH := Lib.hid (HTG.out.put p4 (.inr (Nat.le_refl _))); clear p4; obtain ⟨⟨x0, x1, x2⟩, y0, y1, y2⟩ := cellsS HY7.out; rw [HBD.out] at x2))
      go_upto_region 6 with (fail)
      have hini : Below w1.heap.size w1 w4.drew ∧ (∀ k, k ≠ w.heap.size → w4.drew.heap[k]? = w4.heap[k]?) := ⟨HQ5.out.drew, fun _ _ => rfl⟩
      clear x0 x1 x2 y0 y1 y2
      have hz4 := lt_of_block HY7.out
      have hx4 := bx_call HX1.out (HQ5.out)
      have HX4 := Lib.hid hx4
      clear hx4
      refine wp_region_held_drew (S := fun V => ∀ k, k ≠ w.heap.size → V.heap[k]? = w4.heap[k]?) (by kernel_rfl) hini.2 (fun hHeld => ?_)
      clear hini
      refine wpAnyH_take (i := 0) (v := .agg #[.int .u8 0, .int .u8 0, .int .i64 0, .int .i64 0, .string ⟨#[]⟩, .string ⟨#[]⟩, .string ⟨#[]⟩, .slice none 0 0]) rfl (by kernel_rfl) (by kernel_rfl) (by kernel_rfl) (fun _ _ _ h => h) (Or.inl ⟨by rfl, ?_⟩) (by assumption) ?_
      · intro w' hSw
        kernel_rfl
      try simp only [Act.put, la, lb, lc, ld, le, lf]
      refine wpAnyH_take (i := 1) (v := .pointer (some ⟨w1.heap.size, 0, none⟩)) rfl (by kernel_rfl) (by kernel_rfl) (by kernel_rfl) (fun _ _ _ h => h) (Or.inl ⟨by rfl, ?_⟩) (by assumption) ?_
      · intro w' hSw
        first | (go_simp; done) | rfl
      try simp only [Act.put, la, lb, lc, ld, le, lf]
      refine wpAnyH_take (i := 2) (v := .slice (some ⟨g, 0, none⟩) (ts.length + 1) c) rfl (by kernel_rfl) (by kernel_rfl) (by kernel_rfl) (fun _ _ _ h => h) (Or.inl ⟨by rfl, ?_⟩) (by assumption) ?_
      · intro w' hSw
        obtain ⟨⟨g0, g1, g2⟩, d0, d1, d2⟩ := cellsS ((hSw _ (by omega)).trans HY7.out)
        first | (go_simp; done) | rfl
      try simp only [Act.put, la, lb, lc, ld, le, lf]
      refine wpAnyH_take (i := 3) (v := .pointer (some ⟨w1.heap.size, 1, none⟩)) rfl (by kernel_rfl) (by kernel_rfl) (by kernel_rfl) (fun _ _ _ h => h) (Or.inl ⟨by rfl, ?_⟩) (by assumption) ?_
      · intro w' hSw
        first | (go_simp; done) | rfl
      try simp only [Act.put, la, lb, lc, ld, le, lf]
      refine wpAnyH_take (i := 4) (v := .int .i64 (r.1.i : Int)) rfl (by kernel_rfl) (by kernel_rfl) (by kernel_rfl) (fun _ _ _ h => h) (Or.inl ⟨by rfl, ?_⟩) (by assumption) ?_
      · intro w' hSw
        obtain ⟨⟨g0, g1, g2⟩, d0, d1, d2⟩ := cellsS ((hSw _ (by omega)).trans HY7.out)
        first | (go_simp; done) | rfl
      try simp only [Act.put, la, lb, lc, ld, le, lf]
      refine wpAnyH_take (i := 5) (v := .pointer (some ⟨g, r.1.i * 3, none⟩)) rfl (by kernel_rfl) (by kernel_rfl) (by kernel_rfl) (fun _ _ _ h => h) (Or.inl ⟨by rfl, ?_⟩) (by assumption) ?_
      · intro w' hSw
        first | (go_simp; done) | rfl
      try simp only [Act.put, la, lb, lc, ld, le, lf]
      refine wpAnyH_take (i := 6) (v := .pointer (some ⟨g, r.1.i * 3 + 2, none⟩)) rfl (by kernel_rfl) (by kernel_rfl) (by kernel_rfl) (fun _ _ _ h => h) (Or.inl ⟨by rfl, ?_⟩) (by assumption) ?_
      · intro w' hSw
        first | (go_simp; done) | rfl
      try simp only [Act.put, la, lb, lc, ld, le, lf]
      refine wpAnyH_take (i := 7) (v := .int .i64 ((tel T r.1.i).a : Int)) rfl (by kernel_rfl) (by kernel_rfl) (by kernel_rfl) (fun _ _ _ h => h) (Or.inl ⟨by rfl, ?_⟩) (by assumption) ?_
      · intro w' hSw
        obtain ⟨s0, s1, s2⟩ := (ToksAt.far (HR.out.below HQ5.out).toks (hSw g HGN.out)) r.1.i (by rw [HR.out.len]; exact HRL.out)
        first | (go_simp; done) | rfl
      try simp only [Act.put, la, lb, lc, ld, le, lf]
      refine wpAnyH_ready (rs := [8]) (by kernel_rfl) (by simp) ?_
      refine AllReadyH.cons rfl (fun K hK => ?_) AllReadyH.nil
      have HK2 := Lib.hid hK
      clear hK
      try rw [if_pos (by rfl)]
      refine wp_stT _ _ _ _ _ _ _ w.heap.size _ _ 0 0 0 0 ⟨#[]⟩ ⟨#[]⟩ ⟨#[]⟩ none 0 0 _ _ _ _ _ _ _ _ rfl rfl (show w4.drew.heap[w.heap.size]? = _ from HX4.out) (fun vb pb => ?_)
      have PB := Lib.hid pb
      clear pb
      refine HK2.out _ _ (fun k hk => (PB.out.off k hk).trans rfl) (fun hHeld => ?_)
      clear HK2
      try simp only [Act.put, la, lb, lc, ld, le, lf]
      clear K
      refine wpAnyH_ready (rs := [9]) (by kernel_rfl) (by simp) ?_
      refine AllReadyH.cons rfl (fun K hK => ?_) AllReadyH.nil
      have HK2 := Lib.hid hK
      clear hK
      go_simp
      refine HK2.out _ _ (fun k hk => (PB.out.off k hk).trans rfl) (fun hHeld => ?_)
      clear HK2
      try simp only [Act.put, la, lb, lc, ld, le, lf]
      clear K
      refine wpAnyH_ready (rs := [10]) (by kernel_rfl) (by simp) ?_
      refine AllReadyH.cons rfl (fun K hK => ?_) AllReadyH.nil
      have HK2 := Lib.hid hK
      clear hK
      go_simp
      refine HK2.out _ _ (fun k hk => (PB.out.off k hk).trans rfl) (fun hHeld => ?_)
      clear HK2
      try simp only [Act.put, la, lb, lc, ld, le, lf]
      clear K
      refine wpAnyH_done (by kernel_rfl) ?_ _
      clear hHeld
      have hr3 := PB.out.here
      obtain ⟨⟨g0, g1, g2, g3, g4, g5, g6, g7⟩, f0, f1, f2, f3, f4, f5, f6, f7⟩ := cells8' hr3
      have rl3 := lt_of_block hr3
      clear hr3
      go_wp2_with (fail)
      refine bodyPost_ret (v := .tuple #[.agg #[.int .u8 0, .int .u8 0, .int .i64 0, .int .i64 0, .string ⟨#[]⟩, .string ⟨#[]⟩, .string ⟨#[]⟩, .slice none 0 0], .int .i64 ((tel T r.1.i).a : Int), .int .i64 2]) (by simp [results, Tryz.results9, go_sem, g0, g1, g2, g3, g4, g5, g6, g7, rl3]) rfl ⟨PB.out.below (HB1.out.trans (HQ5.out.drew.mono HB1.out.size)) (Nat.le_refl _), .inl ⟨_, _, HRES.out, rfl⟩⟩
    | false =>
      by_cases hk : (tel T r.1.i).k = 6
      · have hres : termRes xs = .good r.2 := by rw [hres0, if_pos ⟨hbd, hk⟩]
        have ek : ((tel T r.1.i).k == 6) = true := by rw [hk]; rfl
        clear hres0 hk
        have hx := expr_doc g (ts.length + 1) c T (fuelOf T) (w1.alloc (.cells #[.slice (some ⟨g, 0, none⟩) (ts.length + 1) c, .int .i64 0, .bool false] 56)) ⟨0, false⟩ r (hR.below (al_new _)) (by show 0 < ts.length + 1; omega) hr
        have hx' : Calls Tryz.prog 24 #[.agg #[.slice (some ⟨g, 0, none⟩) (ts.length + 1) c, .int .i64 0, .bool false]] (w1.alloc (.cells #[.slice (some ⟨g, 0, none⟩) (ts.length + 1) c, .int .i64 0, .bool false] 56)) (DEnd g (ts.length + 1) c r (w1.alloc (.cells #[.slice (some ⟨g, 0, none⟩) (ts.length + 1) c, .int .i64 0, .bool false] 56))) := hx
        have htk := fun W (hq : Below w1.heap.size w1 W) => (hR.below hq).toks r.1.i (by rw [hR.len]; exact hrl)
        have hri1 : (r.1.i : Int) < ((ts.length + 1 : Nat) : Int) := by omega
        have hri0 : (0 : Int) ≤ (r.1.i : Int) := by omega
        have hri2 : (r.1.i : Int) < (ts.length : Int) + 1 := by omega
        have HTK := Lib.hid htk
        clear htk
        have HEX := Lib.hid hx'; have HR := Lib.hid hR; have HB1 := Lib.hid hB1; have HX1 := Lib.hid hx1; have HRL := Lib.hid hrl; have HRES := Lib.hid hres; have HBD := Lib.hid hbd
        clear hx hx' hr hR hB1 hx1 hres hbd hb1 HBG HA HBX hlx hrl
        go_wp2_with (fail)
        refine HEX.out.mono ?_
        rintro e w2 ⟨h, q, l, d', rfl, hT2, hb2⟩
        have hq2 : Below w1.heap.size w1 w2 := (al_new (W := w1) (.cells #[.slice (some ⟨g, 0, none⟩) (ts.length + 1) c, .int .i64 0, .bool false] 56)).trans (hb2.mono (al_new (W := w1) (.cells #[.slice (some ⟨g, 0, none⟩) (ts.length + 1) c, .int .i64 0, .bool false] 56)).size)
        have HQ3 := Lib.hid (hq2.trans ((al_new (W := w2) (.cells #[.int .u8 0, .int .u8 0, .int .i64 0, .int .i64 0, .string ⟨#[]⟩, .string ⟨#[]⟩, .string ⟨#[]⟩, .slice none 0 0] 29)).mono hq2.size))
        have HY5 := Lib.hid (bx_call (bx_call (heap_alloc_new w1 (.cells #[.slice (some ⟨g, 0, none⟩) (ts.length + 1) c, .int .i64 0, .bool false] 56)) hb2) (al_new (.cells #[.int .u8 0, .int .u8 0, .int .i64 0, .int .i64 0, .string ⟨#[]⟩, .string ⟨#[]⟩, .string ⟨#[]⟩, .slice none 0 0] 29)))
        have HZ8 := Lib.hid (heap_alloc_new w2 (.cells #[.int .u8 0, .int .u8 0, .int .i64 0, .int .i64 0, .string ⟨#[]⟩, .string ⟨#[]⟩, .string ⟨#[]⟩, .slice none 0 0] 29))
        have HTF := Lib.hid ((TmFr.new hT2).call (al_new (.cells #[.int .u8 0, .int .u8 0, .int .i64 0, .int .i64 0, .string ⟨#[]⟩, .string ⟨#[]⟩, .string ⟨#[]⟩, .slice none 0 0] 29)))
        have hz2 : w1.heap.size + 1 ≤ w2.heap.size := by have := hb2.size; simpa using this
        have hzB : w1.heap.size < (w1.alloc (.cells #[.slice (some ⟨g, 0, none⟩) (ts.length + 1) c, .int .i64 0, .bool false] 56)).heap.size := by simp
        have HZB := Lib.hid hzB
        clear hT2 hb2 hq2 hzB HEX
        go_upto_region 5 with (first | (refine wpList_stS w1.heap.size 5 23 (some ⟨g, 0, none⟩) (ts.length + 1) c r.1.i r.1.bad _ _ _ rfl rfl HY5.out ?_; intro w3 p3; have HQ4 := Lib.hid (p3.below HQ3.out (Nat.le_refl _)); have HY6 := Lib.hid p3.here; have HZ9 := Lib.hid (bx_put HZ8.out p3 (by omega)); have HTG := Lib.hid (HTF.out.put p3 (.inl HZB.out)); clear p3) | (refine wpList_stT w2.heap.size 8 24 h.k h.op h.pl h.n h.name h.arg h.exn q l d' _ _ _ _ _ _ _ _ rfl rfl HZ9.out ?_; intro w4 p4; have HQ5 := Lib.hid (p4.below HQ4.out (by omega)); have HY7 := Lib.hid (bx_put HY6.out p4 (by omega)); have HZ10 := Lib.hid p4.here; have HTH := Lib.hid (HTG.out.put p4 (.inr (Nat.le_refl _))); clear p4; obtain ⟨⟨x0, x1, x2⟩, y0, y1, y2⟩ := cellsS HY7.out; rw [HBD.out] at x2; obtain ⟨s0, s1, s2⟩ := HTK.out _ HQ5.out))
        go_upto_region 7 with (fail)
        have HX4 := Lib.hid (bx_call HX1.out HQ5.out)
        obtain ⟨⟨z0, z1, z2, z3, z4, z5, z6, z7⟩, -⟩ := cells8' HZ10.out
        go_wp2_with (refine wpList_stT w.heap.size 2 45 h.k h.op h.pl h.n h.name h.arg h.exn q l d' _ _ _ _ _ _ _ _ rfl rfl HX4.out ?_; intro w5 p5; have P5 := Lib.hid p5; clear p5)
        have hr3 := P5.out.here
        obtain ⟨⟨g0, g1, g2, g3, g4, g5, g6, g7⟩, f0, f1, f2, f3, f4, f5, f6, f7⟩ := cells8' hr3
        have rl3 := lt_of_block hr3
        clear hr3
        have htm := (HTH.out.put P5.out (.inl (by have := HZB.out; omega))).fresh (B0 := w.heap.size) (by have := HZB.out; omega)
        refine bodyPost_ret (v := .tuple #[.agg #[.int .u8 h.k, .int .u8 h.op, .int .i64 h.pl, .int .i64 h.n, .string h.name, .string h.arg, .string h.exn, .slice q l d'], .int .i64 0, .int .i64 0]) (by simp [results, Tryz.results9, go_sem, g0, g1, g2, g3, g4, g5, g6, g7, rl3]) rfl ⟨P5.out.below (HB1.out.trans (HQ5.out.mono HB1.out.size)) (Nat.le_refl _), .inr ⟨_, h, q, l, d', HRES.out, rfl, htm⟩⟩
      · have hres : termRes xs = .bad (tel T r.1.i).a 2 := by rw [hres0, if_neg (fun h => hk h.2)]
        have ek : ((tel T r.1.i).k == 6) = false := beq_eq_false_iff_ne.2 hk
        clear hres0 hk
        have hx := expr_doc g (ts.length + 1) c T (fuelOf T) (w1.alloc (.cells #[.slice (some ⟨g, 0, none⟩) (ts.length + 1) c, .int .i64 0, .bool false] 56)) ⟨0, false⟩ r (hR.below (al_new _)) (by show 0 < ts.length + 1; omega) hr
        have hx' : Calls Tryz.prog 24 #[.agg #[.slice (some ⟨g, 0, none⟩) (ts.length + 1) c, .int .i64 0, .bool false]] (w1.alloc (.cells #[.slice (some ⟨g, 0, none⟩) (ts.length + 1) c, .int .i64 0, .bool false] 56)) (DEnd g (ts.length + 1) c r (w1.alloc (.cells #[.slice (some ⟨g, 0, none⟩) (ts.length + 1) c, .int .i64 0, .bool false] 56))) := hx
        have htk := fun W (hq : Below w1.heap.size w1 W) => (hR.below hq).toks r.1.i (by rw [hR.len]; exact hrl)
        have hri1 : (r.1.i : Int) < ((ts.length + 1 : Nat) : Int) := by omega
        have hri0 : (0 : Int) ≤ (r.1.i : Int) := by omega
        have hri2 : (r.1.i : Int) < (ts.length : Int) + 1 := by omega
        have HTK := Lib.hid htk
        clear htk
        have HEX := Lib.hid hx'; have HR := Lib.hid hR; have HB1 := Lib.hid hB1; have HX1 := Lib.hid hx1; have HRL := Lib.hid hrl; have HRES := Lib.hid hres; have HBD := Lib.hid hbd
        clear hx hx' hr hR hB1 hx1 hres hbd hb1 HBG HA HBX hlx hrl
        go_wp2_with (fail)
        refine HEX.out.mono ?_
        rintro e w2 ⟨h, q, l, d', rfl, hT2, hb2⟩
        have hq2 : Below w1.heap.size w1 w2 := (al_new (W := w1) (.cells #[.slice (some ⟨g, 0, none⟩) (ts.length + 1) c, .int .i64 0, .bool false] 56)).trans (hb2.mono (al_new (W := w1) (.cells #[.slice (some ⟨g, 0, none⟩) (ts.length + 1) c, .int .i64 0, .bool false] 56)).size)
        have HQ3 := Lib.hid (hq2.trans ((al_new (W := w2) (.cells #[.int .u8 0, .int .u8 0, .int .i64 0, .int .i64 0, .string ⟨#[]⟩, .string ⟨#[]⟩, .string ⟨#[]⟩, .slice none 0 0] 29)).mono hq2.size))
        have HY5 := Lib.hid (bx_call (bx_call (heap_alloc_new w1 (.cells #[.slice (some ⟨g, 0, none⟩) (ts.length + 1) c, .int .i64 0, .bool false] 56)) hb2) (al_new (.cells #[.int .u8 0, .int .u8 0, .int .i64 0, .int .i64 0, .string ⟨#[]⟩, .string ⟨#[]⟩, .string ⟨#[]⟩, .slice none 0 0] 29)))
        have HZ8 := Lib.hid (heap_alloc_new w2 (.cells #[.int .u8 0, .int .u8 0, .int .i64 0, .int .i64 0, .string ⟨#[]⟩, .string ⟨#[]⟩, .string ⟨#[]⟩, .slice none 0 0] 29))
        have HTF := Lib.hid ((TmFr.new hT2).call (al_new (.cells #[.int .u8 0, .int .u8 0, .int .i64 0, .int .i64 0, .string ⟨#[]⟩, .string ⟨#[]⟩, .string ⟨#[]⟩, .slice none 0 0] 29)))
        have hz2 : w1.heap.size + 1 ≤ w2.heap.size := by have := hb2.size; simpa using this
        have hzB : w1.heap.size < (w1.alloc (.cells #[.slice (some ⟨g, 0, none⟩) (ts.length + 1) c, .int .i64 0, .bool false] 56)).heap.size := by simp
        have HZB := Lib.hid hzB
        clear hT2 hb2 hq2 hzB HEX
        go_upto_region 5 with (first | (refine wpList_stS w1.heap.size 5 23 (some ⟨g, 0, none⟩) (ts.length + 1) c r.1.i r.1.bad _ _ _ rfl rfl HY5.out ?_; intro w3 p3; have HQ4 := Lib.hid (p3.below HQ3.out (Nat.le_refl _)); have HY6 := Lib.hid p3.here; have HZ9 := Lib.hid (bx_put HZ8.out p3 (by omega)); have HTG := Lib.hid (HTF.out.put p3 (.inl HZB.out)); clear p3) | (refine wpList_stT w2.heap.size 8 24 h.k h.op h.pl h.n h.name h.arg h.exn q l d' _ _ _ _ _ _ _ _ rfl rfl HZ9.out ?_; intro w4 p4; have HQ5 := Lib.hid (p4.below HQ4.out (by omega)); have HY7 := Lib.hid (bx_put HY6.out p4 (by omega)); have HZ10 := Lib.hid p4.here; have HTH := Lib.hid (HTG.out.put p4 (.inr (Nat.le_refl _))); clear p4; obtain ⟨⟨x0, x1, x2⟩, y0, y1, y2⟩ := cellsS HY7.out; rw [HBD.out] at x2; obtain ⟨s0, s1, s2⟩ := HTK.out _ HQ5.out))
        go_upto_region 6 with (fail)
        have hini : Below w1.heap.size w1 w4.drew ∧ (∀ k, k ≠ w.heap.size → w4.drew.heap[k]? = w4.heap[k]?) := ⟨HQ5.out.drew, fun _ _ => rfl⟩
        clear x0 x1 x2 y0 y1 y2 s0 s1 s2
        have hz4 := lt_of_block HY7.out
        have hx4 := bx_call HX1.out (HQ5.out)
        have HX4 := Lib.hid hx4
        clear hx4
        refine wp_region_held_drew (S := fun V => ∀ k, k ≠ w.heap.size → V.heap[k]? = w4.heap[k]?) (by kernel_rfl) hini.2 (fun hHeld => ?_)
        clear hini
        refine wpAnyH_take (i := 0) (v := .agg #[.int .u8 0, .int .u8 0, .int .i64 0, .int .i64 0, .string ⟨#[]⟩, .string ⟨#[]⟩, .string ⟨#[]⟩, .slice none 0 0]) rfl (by kernel_rfl) (by kernel_rfl) (by kernel_rfl) (fun _ _ _ h => h) (Or.inl ⟨by rfl, ?_⟩) (by assumption) ?_
        · intro w' hSw
          kernel_rfl
        try simp only [Act.put, la, lb, lc, ld, le, lf]
        refine wpAnyH_take (i := 1) (v := .pointer (some ⟨w1.heap.size, 0, none⟩)) rfl (by kernel_rfl) (by kernel_rfl) (by kernel_rfl) (fun _ _ _ h => h) (Or.inl ⟨by rfl, ?_⟩) (by assumption) ?_
        · intro w' hSw
          first | (go_simp; done) | rfl
        try simp only [Act.put, la, lb, lc, ld, le, lf]
        refine wpAnyH_take (i := 2) (v := .slice (some ⟨g, 0, none⟩) (ts.length + 1) c) rfl (by kernel_rfl) (by kernel_rfl) (by kernel_rfl) (fun _ _ _ h => h) (Or.inl ⟨by rfl, ?_⟩) (by assumption) ?_
        · intro w' hSw
          obtain ⟨⟨g0, g1, g2⟩, d0, d1, d2⟩ := cellsS ((hSw _ (by omega)).trans HY7.out)
          first | (go_simp; done) | rfl
        try simp only [Act.put, la, lb, lc, ld, le, lf]
        refine wpAnyH_take (i := 3) (v := .pointer (some ⟨w1.heap.size, 1, none⟩)) rfl (by kernel_rfl) (by kernel_rfl) (by kernel_rfl) (fun _ _ _ h => h) (Or.inl ⟨by rfl, ?_⟩) (by assumption) ?_
        · intro w' hSw
          first | (go_simp; done) | rfl
        try simp only [Act.put, la, lb, lc, ld, le, lf]
        refine wpAnyH_take (i := 4) (v := .int .i64 (r.1.i : Int)) rfl (by kernel_rfl) (by kernel_rfl) (by kernel_rfl) (fun _ _ _ h => h) (Or.inl ⟨by rfl, ?_⟩) (by assumption) ?_
        · intro w' hSw
          obtain ⟨⟨g0, g1, g2⟩, d0, d1, d2⟩ := cellsS ((hSw _ (by omega)).trans HY7.out)
          first | (go_simp; done) | rfl
        try simp only [Act.put, la, lb, lc, ld, le, lf]
        refine wpAnyH_take (i := 5) (v := .pointer (some ⟨g, r.1.i * 3, none⟩)) rfl (by kernel_rfl) (by kernel_rfl) (by kernel_rfl) (fun _ _ _ h => h) (Or.inl ⟨by rfl, ?_⟩) (by assumption) ?_
        · intro w' hSw
          first | (go_simp; done) | rfl
        try simp only [Act.put, la, lb, lc, ld, le, lf]
        refine wpAnyH_take (i := 6) (v := .pointer (some ⟨g, r.1.i * 3 + 2, none⟩)) rfl (by kernel_rfl) (by kernel_rfl) (by kernel_rfl) (fun _ _ _ h => h) (Or.inl ⟨by rfl, ?_⟩) (by assumption) ?_
        · intro w' hSw
          first | (go_simp; done) | rfl
        try simp only [Act.put, la, lb, lc, ld, le, lf]
        refine wpAnyH_take (i := 7) (v := .int .i64 ((tel T r.1.i).a : Int)) rfl (by kernel_rfl) (by kernel_rfl) (by kernel_rfl) (fun _ _ _ h => h) (Or.inl ⟨by rfl, ?_⟩) (by assumption) ?_
        · intro w' hSw
          obtain ⟨s0, s1, s2⟩ := (ToksAt.far (HR.out.below HQ5.out).toks (hSw g HGN.out)) r.1.i (by rw [HR.out.len]; exact HRL.out)
          first | (go_simp; done) | rfl
        try simp only [Act.put, la, lb, lc, ld, le, lf]
        refine wpAnyH_ready (rs := [8]) (by kernel_rfl) (by simp) ?_
        refine AllReadyH.cons rfl (fun K hK => ?_) AllReadyH.nil
        have HK2 := Lib.hid hK
        clear hK
        try rw [if_pos (by rfl)]
        refine wp_stT _ _ _ _ _ _ _ w.heap.size _ _ 0 0 0 0 ⟨#[]⟩ ⟨#[]⟩ ⟨#[]⟩ none 0 0 _ _ _ _ _ _ _ _ rfl rfl (show w4.drew.heap[w.heap.size]? = _ from HX4.out) (fun vb pb => ?_)
        have PB := Lib.hid pb
        clear pb
        refine HK2.out _ _ (fun k hk => (PB.out.off k hk).trans rfl) (fun hHeld => ?_)
        clear HK2
        try simp only [Act.put, la, lb, lc, ld, le, lf]
        clear K
        refine wpAnyH_ready (rs := [9]) (by kernel_rfl) (by simp) ?_
        refine AllReadyH.cons rfl (fun K hK => ?_) AllReadyH.nil
        have HK2 := Lib.hid hK
        clear hK
        go_simp
        refine HK2.out _ _ (fun k hk => (PB.out.off k hk).trans rfl) (fun hHeld => ?_)
        clear HK2
        try simp only [Act.put, la, lb, lc, ld, le, lf]
        clear K
        refine wpAnyH_ready (rs := [10]) (by kernel_rfl) (by simp) ?_
        refine AllReadyH.cons rfl (fun K hK => ?_) AllReadyH.nil
        have HK2 := Lib.hid hK
        clear hK
        go_simp
        refine HK2.out _ _ (fun k hk => (PB.out.off k hk).trans rfl) (fun hHeld => ?_)
        clear HK2
        try simp only [Act.put, la, lb, lc, ld, le, lf]
        clear K
        refine wpAnyH_done (by kernel_rfl) ?_ _
        clear hHeld
        have hr3 := PB.out.here
        obtain ⟨⟨g0, g1, g2, g3, g4, g5, g6, g7⟩, f0, f1, f2, f3, f4, f5, f6, f7⟩ := cells8' hr3
        have rl3 := lt_of_block hr3
        clear hr3
        go_wp2_with (fail)
        refine bodyPost_ret (v := .tuple #[.agg #[.int .u8 0, .int .u8 0, .int .i64 0, .int .i64 0, .string ⟨#[]⟩, .string ⟨#[]⟩, .string ⟨#[]⟩, .slice none 0 0], .int .i64 ((tel T r.1.i).a : Int), .int .i64 2]) (by simp [results, Tryz.results9, go_sem, g0, g1, g2, g3, g4, g5, g6, g7, rl3]) rfl ⟨PB.out.below (HB1.out.trans (HQ5.out.drew.mono HB1.out.size)) (Nat.le_refl _), .inl ⟨_, _, HRES.out, rfl⟩⟩
end Parse
end Go.Proofs.YtadpjkehflokcaaGreatDoor
