/- The document's parser: unary: a pair. (Written by wip/tools/unary4.py.) -/
import Derived.Test.YtadpjkehflokcaaGreatDoorGParseU
import Derived.Deep.LoopGhost
import Derived.Test.YtadpjkehflokcaaGreatDoorGParseS
namespace Go.Proofs.YtadpjkehflokcaaGreatDoor
open Go.RowKit
set_option linter.unusedVariables false
set_option linter.unusedSimpArgs false
namespace Parse
open Token (Tok tel ToksAt)
open Term (Tm Hd TmIs Flat tcells veil Reads HdOk Kids)
open Words (str_no str_yes)

set_option maxRecDepth 100000 in
set_option maxHeartbeats 51200000 in
theorem dun_pair (g n c : Nat) (ts : List Tok) (m : Nat) (hU : ∀ k, k ≤ m → DPart 117 (unaryF ts k) g n c ts) (hE : ∀ k, k ≤ m → DPart 24 (exprF ts k) g n c ts) (w : World) (i : Nat) (R : St × Tm) (hR : RowAt w g n c ts) (hs : i < n) (hx : ¬ preN (textOf ts i) < 4) (hw : textOf ts i ≠ wRaise) (h1 : (tel ts i).k ≠ 1) (h2 : (tel ts i).k ≠ 2) (r : St × Tm) (hr : exprF ts m (wantF ts ⟨i, false⟩ wOpen) = some r) (hbd : r.1.bad = false) (hcm : textOf ts r.1.i = wComma) (v : St × Tm) (hv : exprF ts m ⟨r.1.i + 1, false⟩ = some v) (hRe : R = (wantF ts v.1 wShut, node 3 (plA ts i) [r.2, v.2])) (hF : unaryF ts (m + 1) ⟨i, false⟩ = some R) :
    Calls Tryz.prog 117 #[.agg #[.slice (some ⟨g, 0, none⟩) n c, .int .i64 (i : Int), .bool false]] w (DEnd g n c R w) := by
  obtain ⟨s1, hs1⟩ : ∃ s1, s1 = wantF ts ⟨i, false⟩ wOpen := ⟨_, rfl⟩
  have hop : ∀ W, RowAt W g n c ts → Calls Tryz.prog 23 #[.agg #[.slice (some ⟨g, 0, none⟩) n c, .int .i64 (i : Int), .bool false], .string ⟨#[40]⟩] W (StEnd g n c s1 W) := fun W h => by rw [hs1]; exact want_walk W g n c ts i false wOpen h hs
  have hs1l : s1.i < n := by rw [hs1]; exact want_n hR (by decide) hs
  rw [← hs1] at hr
  have hrl : r.1.i < n := expr_n hR hs1l hr
  have hri : (r.1.i : Int) ≤ 70000 := by have := hR.small; omega
  subst hRe
  have hr1 : r.1 = ⟨r.1.i, false⟩ := by rw [← hbd]
  have hnx : r.1.i + 1 < n := row_text hR hrl (by rw [hcm]; decide)
  obtain ⟨i6, hi6⟩ : ∃ i6 : Nat, i6 = r.1.i + 1 := ⟨_, rfl⟩
  have he6 : (r.1.i : Int) + 1 = (i6 : Int) := by omega
  have HE6 := Lib.hid he6
  rw [← hi6] at hnx
  have hv' : exprF ts m ⟨i6, false⟩ = some v := by rw [hi6]; exact hv
  have hvl : v.1.i < n := expr_n hR (s := ⟨i6, false⟩) hnx hv'
  obtain ⟨s2, hs2⟩ : ∃ s2, s2 = wantF ts v.1 wShut := ⟨_, rfl⟩
  have hsh : ∀ W, RowAt W g n c ts → Calls Tryz.prog 23 #[.agg #[.slice (some ⟨g, 0, none⟩) n c, .int .i64 (v.1.i : Int), .bool v.1.bad], .string ⟨#[41]⟩] W (StEnd g n c s2 W) := fun W h => by rw [hs2]; exact want_walk W g n c ts v.1.i v.1.bad wShut h hvl
  rw [← hs2]
  have HSH := Lib.hid hsh; have HNX := Lib.hid hnx; have HV := Lib.hid hv'; have HVL := Lib.hid hvl
  clear hsh hs2 hr1 hnx he6 hi6 hv hv' hvl
  have htx2 : ∀ W, RowAt W g n c ts → Calls Tryz.prog 21 #[.agg #[.slice (some ⟨g, 0, none⟩) n c, .int .i64 (r.1.i : Int), .bool false]] W fun e w' => e = .returned (.string (textOf ts r.1.i)) ∧ Below W.heap.size W w' := fun W h => text_walk W g n c ts r.1.i false h hrl
  have HTX2 := Lib.hid htx2; have HCM := Lib.hid hcm
  clear htx2 hcm
  have HW := Lib.hid hw; have HK1 := Lib.hid h1; have HK2 := Lib.hid h2; have HR0 := Lib.hid hr; have HRL := Lib.hid hrl; have HL1 := Lib.hid hs1l; have HOP := Lib.hid hop; have HBD := Lib.hid hbd
  have hpa : plA ts i = ((tel ts i).a : Int) := rfl
  clear hw h1 h2 hr hrl hs1l hs1 hop hbd
  have hps := ps_new w g n c ⟨i, false⟩ hs
  obtain ⟨t0, t1, t2⟩ := hR.toks i (by rw [hR.len]; exact hs)
  have hgl := World.block_lt_of_cell? w _ t0
  simp only at hgl
  have hi1 : (i : Int) < (n : Int) := by omega
  have hi0 : (0 : Int) ≤ (i : Int) := by omega
  have hi2 : (i : Int) ≤ 70000 := by have := hR.small; omega
  have hpl : -9223372036854775808 ≤ ((tel ts i).a : Int) ∧ ((tel ts i).a : Int) ≤ 9223372036854775807 := by have := hR.places i hs; omega
  obtain ⟨s0, s1, s2⟩ := (hR.below hps.below).toks i (by rw [hR.len]; exact hs)
  clear t0 t1 t2
  have hrow := fun W (hb : Below w.heap.size w W) => hR.below hb
  have htk : ∀ O, ((((w.alloc (.cells #[.slice (some ⟨g, 0, none⟩) n c, .int .i64 (i : Int), .bool false] 56)).alloc (.cells #[.slice none 0 0, .int .i64 0, .bool false] 56)).alloc (.cells #[.int .u8 0, .int .u8 0, .int .i64 0, .int .i64 0, .string ⟨#[]⟩, .string ⟨#[]⟩, .string ⟨#[]⟩, .slice none 0 0] 29)).alloc O).heap[w.heap.size + 1 + 1 + 1]? = some O := fun O => by
    have := heap_alloc_new (((w.alloc (.cells #[.slice (some ⟨g, 0, none⟩) n c, .int .i64 (i : Int), .bool false] 56)).alloc (.cells #[.slice none 0 0, .int .i64 0, .bool false] 56)).alloc (.cells #[.int .u8 0, .int .u8 0, .int .i64 0, .int .i64 0, .string ⟨#[]⟩, .string ⟨#[]⟩, .string ⟨#[]⟩, .slice none 0 0] 29)) O
    rwa [show (((w.alloc (.cells #[.slice (some ⟨g, 0, none⟩) n c, .int .i64 (i : Int), .bool false] 56)).alloc (.cells #[.slice none 0 0, .int .i64 0, .bool false] 56)).alloc (.cells #[.int .u8 0, .int .u8 0, .int .i64 0, .int .i64 0, .string ⟨#[]⟩, .string ⟨#[]⟩, .string ⟨#[]⟩, .slice none 0 0] 29)).heap.size = w.heap.size + 1 + 1 + 1 from by simp] at this
  have htx := text_walk ((((w.alloc (.cells #[.slice (some ⟨g, 0, none⟩) n c, .int .i64 (i : Int), .bool false] 56)).alloc (.cells #[.slice none 0 0, .int .i64 0, .bool false] 56)).alloc (.cells #[.int .u8 0, .int .u8 0, .int .i64 0, .int .i64 0, .string ⟨#[]⟩, .string ⟨#[]⟩, .string ⟨#[]⟩, .slice none 0 0] 29)).alloc (.cells #[.int .u8 (tel ts i).k, .string (tel ts i).s, .int .i64 ((tel ts i).a : Int)] 46)) g n c ts i false (hR.below (hps.call (al_new _)).below) hs
  have HPS := Lib.hid (hps.call (al_new (.cells #[.int .u8 (tel ts i).k, .string (tel ts i).s, .int .i64 ((tel ts i).a : Int)] 46))); have HTK := Lib.hid (htk (.cells #[.int .u8 (tel ts i).k, .string (tel ts i).s, .int .i64 ((tel ts i).a : Int)] 46)); have HTX := Lib.hid htx; have HROW := Lib.hid hrow; have HU := Lib.hid hU; have HE := Lib.hid hE; have HR := Lib.hid hR; have HPL := Lib.hid hpl
  clear hps htk htx hrow hU hE hR hF hpl
  go_enter Tryz.func117, Tryz.ntmps117
  go_wp2_with (fail)
  refine HTX.out.mono ?_
  rintro e w2 ⟨rfl, hb2⟩
  have HPS2 := Lib.hid ((HPS.out.call hb2).call (al_new (.cells #[.string ⟨#[102, 115, 116]⟩, .string ⟨#[115, 110, 100]⟩, .string ⟨#[114, 101, 102]⟩, .string ⟨#[33]⟩] 9)))
  have HTK2 := Lib.hid (bx_call (bx_call HTK.out hb2) (al_new (.cells #[.string ⟨#[102, 115, 116]⟩, .string ⟨#[115, 110, 100]⟩, .string ⟨#[114, 101, 102]⟩, .string ⟨#[33]⟩] 9)))
  have hks : ∀ j, j < 4 → (w2.alloc (.cells #[.string ⟨#[102, 115, 116]⟩, .string ⟨#[115, 110, 100]⟩, .string ⟨#[114, 101, 102]⟩, .string ⟨#[33]⟩] 9)).cell? ⟨w2.heap.size, j, none⟩ = some (.string (Words.sel [wFst, wSnd, wRef, wGet] j)) := fun j hj => by
    have h1 := heap_alloc_new w2 (.cells #[.string ⟨#[102, 115, 116]⟩, .string ⟨#[115, 110, 100]⟩, .string ⟨#[114, 101, 102]⟩, .string ⟨#[33]⟩] 9)
    have : j = 0 ∨ j = 1 ∨ j = 2 ∨ j = 3 := by omega
    rcases this with rfl | rfl | rfl | rfl <;> (unfold World.cell?; rw [h1]; rfl)
  have HKS := Lib.hid hks
  clear hb2 HPS HTK HTX hks s0 s1 s2 hgl
  generalize hxx : textOf ts i = x at *
  have HX := Lib.hid hxx
  clear hxx
  go_wp2_with (fail)
  generalize w2.alloc (.cells #[.string ⟨#[102, 115, 116]⟩, .string ⟨#[115, 110, 100]⟩, .string ⟨#[114, 101, 102]⟩, .string ⟨#[33]⟩] 9) = w5 at *
  generalize w2.heap.size = KB at *
  go_loopw [7, 33] (fun _ i' wr => ∃ j : Nat, j ≤ 4 ∧ i' = .int .i64 j ∧ (∀ k, k < j → Words.sel [wFst, wSnd, wRef, wGet] k ≠ x) ∧ wr = w5) (fun _ i' _ => 4 - (intOf i').toNat)
  case atStart => exact ⟨0, Nat.zero_le _, rfl, fun k hk => by omega, rfl⟩
  case round =>
    obtain ⟨j, hj, rfl, hall, rfl⟩ := hrel
    have HALL := Lib.hid hall
    clear hall
    by_cases hlt : j < 4
    · have kc := HKS.out j hlt
      by_cases hxj : Words.sel [wFst, wSnd, wRef, wGet] j = x
      · have hpre := preN_hit x j hlt hxj
        have exj : ((Words.sel [wFst, wSnd, wRef, wGet] j).toList == x.toList) = true := str_yes hxj
        have HPRE := Lib.hid hpre
        clear hpre hxj
        generalize Words.sel [wFst, wSnd, wRef, wGet] j = kj at *
        exact absurd (by rw [HPRE.out]; exact hlt) hx
      · have exj : ((Words.sel [wFst, wSnd, wRef, wGet] j).toList == x.toList) = false := str_no hxj
        have hall2 : ∀ k, k < j + 1 → Words.sel [wFst, wSnd, wRef, wGet] k ≠ x := fun k hk => by
          rcases Nat.lt_or_ge k j with h | h
          · exact HALL.out k h
          · rw [show k = j from by omega]; exact hxj
        have HALL2 := Lib.hid hall2
        clear hall2 hxj
        generalize hkj : Words.sel [wFst, wSnd, wRef, wGet] j = kj at *
        clear hkj
        go_wp2_with (fail)
        go_roundw
        case rel => exact ⟨j + 1, by omega, by go_num, HALL2.out, trivial⟩
        case measure => simp [intOf]; omega
    · obtain rfl : j = 4 := by omega
      have hpre := preN_miss x HALL.out
      have HPRE := Lib.hid hpre
      clear hpre
      have er : (x.toList == [114, 97, 105, 115, 101]) = false := by rw [← tlRaise]; exact str_no HW.out
      have ek : ((tel ts i).k == 1) = false := beq_eq_false_iff_ne.2 HK1.out
      have ek2 : ((tel ts i).k == 2) = false := beq_eq_false_iff_ne.2 HK2.out
      clear hx
      obtain ⟨⟨x0, x1, x2⟩, y0, y1, y2⟩ := cellsS HPS2.out.b1
      obtain ⟨⟨k0, k1, k2⟩, -⟩ := cellsS HTK2.out
      go_wp2_with (fail)
      refine (HOP.out _ (HROW.out _ HPS2.out.below)).mono ?_
      rintro e w6 ⟨rfl, hb6⟩
      have HPS6 := Lib.hid (HPS2.out.call hb6)
      have HTK6 := Lib.hid (bx_call HTK2.out hb6)
      clear hb6 x0 x1 x2 y0 y1 y2 k0 k1 k2 er ek ek2
      go_wp2_with (refine wpList_stS w.heap.size 1 126 (some ⟨g, 0, none⟩) n c s1.i s1.bad _ _ _ rfl rfl HPS6.out.b1 ?_; intro w7 p7; have HPS7 := Lib.hid (HPS6.out.state (s' := s1) p7 HL1.out); have HTK7 := Lib.hid (bx_put HTK6.out p7 (by omega)); clear p7; obtain ⟨⟨x0, x1, x2⟩, y0, y1, y2⟩ := cellsS HPS7.out.b1)
      refine (HE.out m (Nat.le_refl _) w7 s1 r (HROW.out w7 HPS7.out.below) HL1.out HR0.out).mono ?_
      rintro e w8 ⟨h, q, l, d, rfl, hT, hb8⟩
      have hsz7 := lt_of_block HTK7.out
      have hsz8 : w7.heap.size ≤ w8.heap.size := hb8.size
      have HPS8 := Lib.hid ((HPS7.out.call hb8).call (al_new (.cells #[.int .u8 0, .int .u8 0, .int .i64 0, .int .i64 0, .string ⟨#[]⟩, .string ⟨#[]⟩, .string ⟨#[]⟩, .slice none 0 0] 29)))
      have HTK8 := Lib.hid (bx_call (bx_call HTK7.out hb8) (al_new (.cells #[.int .u8 0, .int .u8 0, .int .i64 0, .int .i64 0, .string ⟨#[]⟩, .string ⟨#[]⟩, .string ⟨#[]⟩, .slice none 0 0] 29)))
      have HTF8 := Lib.hid ((TmFr.new hT).call (al_new (.cells #[.int .u8 0, .int .u8 0, .int .i64 0, .int .i64 0, .string ⟨#[]⟩, .string ⟨#[]⟩, .string ⟨#[]⟩, .slice none 0 0] 29)))
      have HZ8 := Lib.hid (heap_alloc_new w8 (.cells #[.int .u8 0, .int .u8 0, .int .i64 0, .int .i64 0, .string ⟨#[]⟩, .string ⟨#[]⟩, .string ⟨#[]⟩, .slice none 0 0] 29))
      clear hT hb8 x0 x1 x2 y0 y1 y2
      go_wp2_with (first | (refine wpList_stS w.heap.size 1 130 (some ⟨g, 0, none⟩) n c r.1.i r.1.bad _ _ _ rfl rfl HPS8.out.b1 ?_; intro w9 p9; have HPS9 := Lib.hid (HPS8.out.state (s' := r.1) p9 HRL.out); have HTK9 := Lib.hid (bx_put HTK8.out p9 (by omega)); have HTF9 := Lib.hid (HTF8.out.put p9 (.inl (by omega))); have HZ9 := Lib.hid (bx_put HZ8.out p9 (by omega)); clear p9) | (refine wpList_stT w8.heap.size 16 131 h.k h.op h.pl h.n h.name h.arg h.exn q l d _ _ _ _ _ _ _ _ rfl rfl HZ9.out ?_; intro w10 p10; have HPS10 := Lib.hid (HPS9.out.put p10 (by omega)); have HTK10 := Lib.hid (bx_put HTK9.out p10 (by omega)); have HTF10 := Lib.hid (HTF9.out.put p10 (.inr (Nat.le_refl _))); have HZ10 := Lib.hid p10.here; clear p10; obtain ⟨⟨x0, x1, x2⟩, y0, y1, y2⟩ := cellsS HPS10.out.b1; rw [HBD.out] at x2))
      go_wp2_with (fail)
      refine (HTX2.out _ (HROW.out _ HPS10.out.below)).mono ?_
      rintro e w11 ⟨rfl, hb11⟩
      have ec : ((textOf ts r.1.i).toList == [44]) = true := by rw [← tlComma]; exact str_yes HCM.out
      have HPS11 := Lib.hid (HPS10.out.call hb11); have HTK11 := Lib.hid (bx_call HTK10.out hb11); have HTF11 := Lib.hid (HTF10.out.call hb11); have HZ11 := Lib.hid (bx_call HZ10.out hb11)
      have hsz11 : w10.heap.size ≤ w11.heap.size := hb11.size
      have hsz10 := lt_of_block HZ10.out
      have HB11 := Lib.hid HPS11.out.b1
      rw [HBD.out] at HB11
      clear hb11 x0 x1 x2 y0 y1 y2
      obtain ⟨⟨x0, x1, x2⟩, y0, y1, y2⟩ := cellsS HB11.out
      go_wp2_with (refine wpList_stI w.heap.size 145 144 ((r.1.i : Int) + 1) _ _ _ rfl rfl HB11.out ?_; intro w12 pi; rw [HE6.out] at pi; have HPS12 := Lib.hid (HPS11.out.state (s' := ⟨i6, false⟩) pi HNX.out); have HTK12 := Lib.hid (bx_put HTK11.out pi (by omega)); have HTF12 := Lib.hid (HTF11.out.put pi (.inl (by omega))); have HZ12 := Lib.hid (bx_put HZ11.out pi (by omega)); clear pi x0 x1 x2 y0 y1 y2; obtain ⟨⟨x0, x1, x2⟩, y0, y1, y2⟩ := cellsS HPS12.out.b1)
      refine (HE.out m (Nat.le_refl _) w12 ⟨i6, false⟩ v (HROW.out w12 HPS12.out.below) HNX.out HV.out).mono ?_
      rintro e w13 ⟨h', q', l', d', rfl, hT', hb13⟩
      have hsz12 := lt_of_block HZ12.out
      have hsz13 : w12.heap.size ≤ w13.heap.size := hb13.size
      have HPS13 := Lib.hid ((HPS12.out.call hb13).call (al_new (.cells #[.int .u8 0, .int .u8 0, .int .i64 0, .int .i64 0, .string ⟨#[]⟩, .string ⟨#[]⟩, .string ⟨#[]⟩, .slice none 0 0] 29)))
      have HTK13 := Lib.hid (bx_call (bx_call HTK12.out hb13) (al_new (.cells #[.int .u8 0, .int .u8 0, .int .i64 0, .int .i64 0, .string ⟨#[]⟩, .string ⟨#[]⟩, .string ⟨#[]⟩, .slice none 0 0] 29)))
      have HTF13 := Lib.hid ((HTF12.out.call hb13).call (al_new (.cells #[.int .u8 0, .int .u8 0, .int .i64 0, .int .i64 0, .string ⟨#[]⟩, .string ⟨#[]⟩, .string ⟨#[]⟩, .slice none 0 0] 29)))
      have HZ13 := Lib.hid (bx_call (bx_call HZ12.out hb13) (al_new (.cells #[.int .u8 0, .int .u8 0, .int .i64 0, .int .i64 0, .string ⟨#[]⟩, .string ⟨#[]⟩, .string ⟨#[]⟩, .slice none 0 0] 29)))
      have HTG13 := Lib.hid ((TmFr.new hT').call (al_new (.cells #[.int .u8 0, .int .u8 0, .int .i64 0, .int .i64 0, .string ⟨#[]⟩, .string ⟨#[]⟩, .string ⟨#[]⟩, .slice none 0 0] 29)))
      have HY13 := Lib.hid (heap_alloc_new w13 (.cells #[.int .u8 0, .int .u8 0, .int .i64 0, .int .i64 0, .string ⟨#[]⟩, .string ⟨#[]⟩, .string ⟨#[]⟩, .slice none 0 0] 29))
      clear hT' hb13 x0 x1 x2 y0 y1 y2
      go_wp2_with (first | (refine wpList_stS w.heap.size 1 149 (some ⟨g, 0, none⟩) n c v.1.i v.1.bad _ _ _ rfl rfl HPS13.out.b1 ?_; intro w14 p14; have HPS14 := Lib.hid (HPS13.out.state (s' := v.1) p14 HVL.out); have HTK14 := Lib.hid (bx_put HTK13.out p14 (by omega)); have HTF14 := Lib.hid (HTF13.out.put p14 (.inl (by omega))); have HZ14 := Lib.hid (bx_put HZ13.out p14 (by omega)); have HTG14 := Lib.hid (HTG13.out.put p14 (.inl (by omega))); have HY14 := Lib.hid (bx_put HY13.out p14 (by omega)); clear p14) | (refine wpList_stT w13.heap.size 17 150 h'.k h'.op h'.pl h'.n h'.name h'.arg h'.exn q' l' d' _ _ _ _ _ _ _ _ rfl rfl HY14.out ?_; intro w15 p15; have HPS15 := Lib.hid (HPS14.out.put p15 (by omega)); have HTK15 := Lib.hid (bx_put HTK14.out p15 (by omega)); have HTF15 := Lib.hid (HTF14.out.put p15 (.inr (by omega))); have HZ15 := Lib.hid (bx_put HZ14.out p15 (by omega)); have HTG15 := Lib.hid (HTG14.out.put p15 (.inr (Nat.le_refl _))); have HY15 := Lib.hid p15.here; clear p15))
      have hini := EndV.of_ps HPS15.out
      refine wp_region_held_drew (S := fun V => EndV w w15 V) (by kernel_rfl) hini (fun hHeld => ?_)
      have HE0 := Lib.hid hini
      clear hini
      generalize w15.drew = v0 at *
      refine wpAnyH_take (i := 0) (v := .agg #[.slice (some ⟨g, 0, none⟩) n c, .int .i64 v.1.i, .bool v.1.bad]) rfl (by kernel_rfl) (by kernel_rfl) (by kernel_rfl) (fun _ _ _ h => h) (Or.inl ⟨by rfl, ?_⟩) (by assumption) ?_
      · intro w' hSw
        obtain ⟨⟨g0, g1, g2⟩, d0, d1, d2⟩ := cellsS ((hSw.off _ (lt_of_block HPS15.out.b1) (by omega) (by omega)).trans HPS15.out.b1)
        first | (go_simp; done) | rfl | (go_simp; first | exact IntWalk.i64_in _ (by omega) | exact IntWalk.u8_in _ (by omega))
      try simp only [Act.put, List.getElem_toArray, List.getElem_cons_succ, List.getElem_cons_zero, List.setIfInBounds_toArray, List.set_cons_zero, List.set_cons_succ]
      refine wpAnyH_take (i := 2) (v := .pointer (some ⟨w.heap.size + 1 + 1 + 1, 2, none⟩)) rfl (by kernel_rfl) (by kernel_rfl) (by kernel_rfl) (fun _ _ _ h => h) (Or.inl ⟨by rfl, ?_⟩) (by assumption) ?_
      · intro w' hSw
        first | (go_simp; done) | rfl | (go_simp; first | exact IntWalk.i64_in _ (by omega) | exact IntWalk.u8_in _ (by omega))
      try simp only [Act.put, List.getElem_toArray, List.getElem_cons_succ, List.getElem_cons_zero, List.setIfInBounds_toArray, List.set_cons_zero, List.set_cons_succ]
      refine wpAnyH_take (i := 3) (v := .int .i64 ((tel ts i).a : Int)) rfl (by kernel_rfl) (by kernel_rfl) (by kernel_rfl) (fun _ _ _ h => h) (Or.inl ⟨by rfl, ?_⟩) (by assumption) ?_
      · intro w' hSw
        obtain ⟨⟨g0, g1, g2⟩, d0, d1, d2⟩ := cellsS ((hSw.off _ (lt_of_block HTK15.out) (by omega) (by omega)).trans HTK15.out)
        first | (go_simp; done) | rfl | (go_simp; first | exact IntWalk.i64_in _ (by omega) | exact IntWalk.u8_in _ (by omega))
      try simp only [Act.put, List.getElem_toArray, List.getElem_cons_succ, List.getElem_cons_zero, List.setIfInBounds_toArray, List.set_cons_zero, List.set_cons_succ]
      refine wpAnyH_take (i := 4) (v := .agg #[.int .u8 h.k, .int .u8 h.op, .int .i64 h.pl, .int .i64 h.n, .string h.name, .string h.arg, .string h.exn, .slice q l d]) rfl (by kernel_rfl) (by kernel_rfl) (by kernel_rfl) (fun _ _ _ h => h) (Or.inl ⟨by rfl, ?_⟩) (by assumption) ?_
      · intro w' hSw
        obtain ⟨⟨g0, g1, g2, g3, g4, g5, g6, g7⟩, d0, d1, d2, d3, d4, d5, d6, d7⟩ := cells8' ((hSw.off _ (lt_of_block HZ15.out) (by omega) (by omega)).trans HZ15.out)
        first | (go_simp; done) | rfl | (go_simp; first | exact IntWalk.i64_in _ (by omega) | exact IntWalk.u8_in _ (by omega))
      try simp only [Act.put, List.getElem_toArray, List.getElem_cons_succ, List.getElem_cons_zero, List.setIfInBounds_toArray, List.set_cons_zero, List.set_cons_succ]
      refine wpAnyH_take (i := 5) (v := .agg #[.int .u8 h'.k, .int .u8 h'.op, .int .i64 h'.pl, .int .i64 h'.n, .string h'.name, .string h'.arg, .string h'.exn, .slice q' l' d']) rfl (by kernel_rfl) (by kernel_rfl) (by kernel_rfl) (fun _ _ _ h => h) (Or.inl ⟨by rfl, ?_⟩) (by assumption) ?_
      · intro w' hSw
        obtain ⟨⟨g0, g1, g2, g3, g4, g5, g6, g7⟩, d0, d1, d2, d3, d4, d5, d6, d7⟩ := cells8' ((hSw.off _ (lt_of_block HY15.out) (by omega) (by omega)).trans HY15.out)
        first | (go_simp; done) | rfl | (go_simp; first | exact IntWalk.i64_in _ (by omega) | exact IntWalk.u8_in _ (by omega))
      try simp only [Act.put, List.getElem_toArray, List.getElem_cons_succ, List.getElem_cons_zero, List.setIfInBounds_toArray, List.set_cons_zero, List.set_cons_succ]
      refine wpAnyH_ready (rs := [1, 6]) (by kernel_rfl) (by simp) ?_
      refine AllReadyH.cons rfl (fun K hK => ?_) (AllReadyH.cons rfl (fun K hK => ?_) AllReadyH.nil)
      · have HK2 := Lib.hid hK
        clear hK
        go_simp
        refine (HSH.out _ (HROW.out _ HE0.out.below)).mono ?_
        rintro e v1 ⟨rfl, hb1⟩
        have HE1 := Lib.hid (HE0.out.call hb1)
        clear hb1
        refine HK2.out _ _ HE1.out (fun hHeld => ?_)
        clear HK2 hHeld
        try simp only [Act.put, List.getElem_toArray, List.getElem_cons_succ, List.getElem_cons_zero, List.setIfInBounds_toArray, List.set_cons_zero, List.set_cons_succ]
        clear K
        refine wpAnyH_ready (rs := [6]) (by kernel_rfl) (by simp) ?_
        refine AllReadyH.cons rfl (fun K hK => ?_) AllReadyH.nil
        have HK2 := Lib.hid hK
        clear hK
        go_simp
        have HE2 := Lib.hid (HE1.out.call (al_new (W := v1) (.cells #[.int .u8 h.k, .int .u8 h.op, .int .i64 h.pl, .int .i64 h.n, .string h.name, .string h.arg, .string h.exn, .slice q l d, .int .u8 h'.k, .int .u8 h'.op, .int .i64 h'.pl, .int .i64 h'.n, .string h'.name, .string h'.arg, .string h'.exn, .slice q' l' d'] 29)))
        have hx2 := heap_alloc_new v1 (.cells #[.int .u8 h.k, .int .u8 h.op, .int .i64 h.pl, .int .i64 h.n, .string h.name, .string h.arg, .string h.exn, .slice q l d, .int .u8 h'.k, .int .u8 h'.op, .int .i64 h'.pl, .int .i64 h'.n, .string h'.name, .string h'.arg, .string h'.exn, .slice q' l' d'] 29)
        have HX2 := Lib.hid hx2
        clear hx2
        refine HK2.out _ _ HE2.out (fun hHeld => ?_)
        generalize v1.alloc (.cells #[.int .u8 h.k, .int .u8 h.op, .int .i64 h.pl, .int .i64 h.n, .string h.name, .string h.arg, .string h.exn, .slice q l d, .int .u8 h'.k, .int .u8 h'.op, .int .i64 h'.pl, .int .i64 h'.n, .string h'.name, .string h'.arg, .string h'.exn, .slice q' l' d'] 29) = v2 at *
        clear HK2 hHeld
        try simp only [Act.put, List.getElem_toArray, List.getElem_cons_succ, List.getElem_cons_zero, List.setIfInBounds_toArray, List.set_cons_zero, List.set_cons_succ]
        clear K
        refine wpAnyH_ready (rs := [7]) (by kernel_rfl) (by simp) ?_
        refine AllReadyH.cons rfl (fun K hK => ?_) AllReadyH.nil
        have HK2 := Lib.hid hK
        clear hK
        go_simp
        refine (term_walk _ 3 ((tel ts i).a : Int) (some ⟨v1.heap.size, 0, none⟩) 2 2).mono ?_
        rintro e v3 ⟨rfl, hb3⟩
        have HE3 := Lib.hid (HE2.out.call hb3)
        have HX2c3 := Lib.hid (bx_call HX2.out hb3)
        clear hb3
        refine HK2.out _ _ HE3.out (fun hHeld => ?_)
        clear HK2 hHeld
        try simp only [Act.put, List.getElem_toArray, List.getElem_cons_succ, List.getElem_cons_zero, List.setIfInBounds_toArray, List.set_cons_zero, List.set_cons_succ]
        clear K
        refine wpAnyH_ready (rs := [8]) (by kernel_rfl) (by simp) ?_
        refine AllReadyH.cons rfl (fun K hK => ?_) AllReadyH.nil
        have HK2 := Lib.hid hK
        clear hK
        try rw [if_pos (by rfl)]
        obtain ⟨x1, x2, x3, hx2⟩ := HE3.out.s2
        refine wp_stS _ _ _ _ _ _ _ (w.heap.size + 1) _ _ (some ⟨g, 0, none⟩) n c s2.i s2.bad x1 x2 x3 rfl rfl hx2 (fun va pa => ?_)
        clear hx2
        have HEa := Lib.hid (HE3.out.two pa)
        have PA := Lib.hid pa
        clear pa
        refine HK2.out _ _ HEa.out (fun hHeld => ?_)
        clear HK2
        try simp only [Act.put, List.getElem_toArray, List.getElem_cons_succ, List.getElem_cons_zero, List.setIfInBounds_toArray, List.set_cons_zero, List.set_cons_succ]
        clear K
        refine wpAnyH_ready (rs := [9]) (by kernel_rfl) (by simp) ?_
        refine AllReadyH.cons rfl (fun K hK => ?_) AllReadyH.nil
        have HK2 := Lib.hid hK
        clear hK
        try rw [if_pos (by rfl)]
        obtain ⟨y1, y2, y3, y4, y5, y6, y7, y8, hy3⟩ := HEa.out.s3
        refine wp_stT _ _ _ _ _ _ _ (w.heap.size + 1 + 1) _ _ 3 0 ((tel ts i).a : Int) 0 ⟨#[]⟩ ⟨#[]⟩ ⟨#[]⟩ (some ⟨v1.heap.size, 0, none⟩) 2 2 y1 y2 y3 y4 y5 y6 y7 y8 rfl rfl hy3 (fun vb pb => ?_)
        clear hy3
        have HEb := Lib.hid (HEa.out.three pb)
        have PB := Lib.hid pb
        clear pb
        refine HK2.out _ _ HEb.out (fun hHeld => ?_)
        clear HK2
        try simp only [Act.put, List.getElem_toArray, List.getElem_cons_succ, List.getElem_cons_zero, List.setIfInBounds_toArray, List.set_cons_zero, List.set_cons_succ]
        clear K
        refine wpAnyH_done (by kernel_rfl) ?_ _
        clear hHeld
        have HX2c3f := Lib.hid (bx_put (bx_put HX2c3.out PA.out (by have := HPS15.out.size; have h0 := HE0.out.size; have h1 := HE1.out.size; omega)) PB.out (by have := HPS15.out.size; have h0 := HE0.out.size; have h1 := HE1.out.size; omega))
        have htm := (show TmIs _ _ _ _ _ (node 3 (plA ts i) [r.2, v.2]) from node2 (HTF15.out.fin (by omega) HEb.out) (HTG15.out.fin (by omega) HEb.out) (by have h0 := HE0.out.below.size; have h1 := HE1.out.below.size; omega) HX2c3f.out (hd_unary (by omega) HPL.out))
        have hr2 := (PB.out.off (w.heap.size + 1) (by omega)).trans PA.out.here
        have hr3 := PB.out.here
        obtain ⟨⟨r0, r1, r2⟩, d0, d1, d2⟩ := cellsS hr2
        obtain ⟨⟨g0, g1, g2, g3, g4, g5, g6, g7⟩, e0, e1, e2, e3, e4, e5, e6, e7⟩ := cells8' hr3
        have rl2 := lt_of_block hr2
        have rl3 := lt_of_block hr3
        have HTM := Lib.hid htm
        clear htm hr2 hr3
        go_wp2_with (fail)
        refine bodyPost_ret (v := .tuple #[.agg #[.slice (some ⟨g, 0, none⟩) n c, .int .i64 s2.i, .bool s2.bad], .agg #[.int .u8 3, .int .u8 0, .int .i64 ((tel ts i).a : Int), .int .i64 0, .string ⟨#[]⟩, .string ⟨#[]⟩, .string ⟨#[]⟩, .slice (some ⟨v1.heap.size, 0, none⟩) 2 2]]) (by simp [results, Tryz.results117, go_sem, r0, r1, r2, g0, g1, g2, g3, g4, g5, g6, g7, rl2, rl3]) rfl ⟨⟨3, 0, ((tel ts i).a : Int), 0, ⟨#[]⟩, ⟨#[]⟩, ⟨#[]⟩⟩, some ⟨v1.heap.size, 0, none⟩, 2, 2, rfl, HTM.out, HEb.out.below⟩
      · have HK2 := Lib.hid hK
        clear hK
        go_simp
        have HE1 := Lib.hid (HE0.out.call (al_new (W := v0) (.cells #[.int .u8 h.k, .int .u8 h.op, .int .i64 h.pl, .int .i64 h.n, .string h.name, .string h.arg, .string h.exn, .slice q l d, .int .u8 h'.k, .int .u8 h'.op, .int .i64 h'.pl, .int .i64 h'.n, .string h'.name, .string h'.arg, .string h'.exn, .slice q' l' d'] 29)))
        have hx1 := heap_alloc_new v0 (.cells #[.int .u8 h.k, .int .u8 h.op, .int .i64 h.pl, .int .i64 h.n, .string h.name, .string h.arg, .string h.exn, .slice q l d, .int .u8 h'.k, .int .u8 h'.op, .int .i64 h'.pl, .int .i64 h'.n, .string h'.name, .string h'.arg, .string h'.exn, .slice q' l' d'] 29)
        have HX1 := Lib.hid hx1
        clear hx1
        refine HK2.out _ _ HE1.out (fun hHeld => ?_)
        generalize v0.alloc (.cells #[.int .u8 h.k, .int .u8 h.op, .int .i64 h.pl, .int .i64 h.n, .string h.name, .string h.arg, .string h.exn, .slice q l d, .int .u8 h'.k, .int .u8 h'.op, .int .i64 h'.pl, .int .i64 h'.n, .string h'.name, .string h'.arg, .string h'.exn, .slice q' l' d'] 29) = v1 at *
        clear HK2 hHeld
        try simp only [Act.put, List.getElem_toArray, List.getElem_cons_succ, List.getElem_cons_zero, List.setIfInBounds_toArray, List.set_cons_zero, List.set_cons_succ]
        clear K
        refine wpAnyH_ready (rs := [1]) (by kernel_rfl) (by simp) ?_
        refine AllReadyH.cons rfl (fun K hK => ?_) AllReadyH.nil
        have HK2 := Lib.hid hK
        clear hK
        go_simp
        refine (HSH.out _ (HROW.out _ HE1.out.below)).mono ?_
        rintro e v2 ⟨rfl, hb2⟩
        have HE2 := Lib.hid (HE1.out.call hb2)
        have HX1c2 := Lib.hid (bx_call HX1.out hb2)
        clear hb2
        refine HK2.out _ _ HE2.out (fun hHeld => ?_)
        clear HK2 hHeld
        try simp only [Act.put, List.getElem_toArray, List.getElem_cons_succ, List.getElem_cons_zero, List.setIfInBounds_toArray, List.set_cons_zero, List.set_cons_succ]
        clear K
        refine wpAnyH_ready (rs := [7]) (by kernel_rfl) (by simp) ?_
        refine AllReadyH.cons rfl (fun K hK => ?_) AllReadyH.nil
        have HK2 := Lib.hid hK
        clear hK
        go_simp
        refine (term_walk _ 3 ((tel ts i).a : Int) (some ⟨v0.heap.size, 0, none⟩) 2 2).mono ?_
        rintro e v3 ⟨rfl, hb3⟩
        have HE3 := Lib.hid (HE2.out.call hb3)
        have HX1c2c3 := Lib.hid (bx_call HX1c2.out hb3)
        clear hb3
        refine HK2.out _ _ HE3.out (fun hHeld => ?_)
        clear HK2 hHeld
        try simp only [Act.put, List.getElem_toArray, List.getElem_cons_succ, List.getElem_cons_zero, List.setIfInBounds_toArray, List.set_cons_zero, List.set_cons_succ]
        clear K
        refine wpAnyH_ready (rs := [8]) (by kernel_rfl) (by simp) ?_
        refine AllReadyH.cons rfl (fun K hK => ?_) AllReadyH.nil
        have HK2 := Lib.hid hK
        clear hK
        try rw [if_pos (by rfl)]
        obtain ⟨x1, x2, x3, hx2⟩ := HE3.out.s2
        refine wp_stS _ _ _ _ _ _ _ (w.heap.size + 1) _ _ (some ⟨g, 0, none⟩) n c s2.i s2.bad x1 x2 x3 rfl rfl hx2 (fun va pa => ?_)
        clear hx2
        have HEa := Lib.hid (HE3.out.two pa)
        have PA := Lib.hid pa
        clear pa
        refine HK2.out _ _ HEa.out (fun hHeld => ?_)
        clear HK2
        try simp only [Act.put, List.getElem_toArray, List.getElem_cons_succ, List.getElem_cons_zero, List.setIfInBounds_toArray, List.set_cons_zero, List.set_cons_succ]
        clear K
        refine wpAnyH_ready (rs := [9]) (by kernel_rfl) (by simp) ?_
        refine AllReadyH.cons rfl (fun K hK => ?_) AllReadyH.nil
        have HK2 := Lib.hid hK
        clear hK
        try rw [if_pos (by rfl)]
        obtain ⟨y1, y2, y3, y4, y5, y6, y7, y8, hy3⟩ := HEa.out.s3
        refine wp_stT _ _ _ _ _ _ _ (w.heap.size + 1 + 1) _ _ 3 0 ((tel ts i).a : Int) 0 ⟨#[]⟩ ⟨#[]⟩ ⟨#[]⟩ (some ⟨v0.heap.size, 0, none⟩) 2 2 y1 y2 y3 y4 y5 y6 y7 y8 rfl rfl hy3 (fun vb pb => ?_)
        clear hy3
        have HEb := Lib.hid (HEa.out.three pb)
        have PB := Lib.hid pb
        clear pb
        refine HK2.out _ _ HEb.out (fun hHeld => ?_)
        clear HK2
        try simp only [Act.put, List.getElem_toArray, List.getElem_cons_succ, List.getElem_cons_zero, List.setIfInBounds_toArray, List.set_cons_zero, List.set_cons_succ]
        clear K
        refine wpAnyH_done (by kernel_rfl) ?_ _
        clear hHeld
        have HX1c2c3f := Lib.hid (bx_put (bx_put HX1c2c3.out PA.out (by have := HPS15.out.size; have h0 := HE0.out.size; omega)) PB.out (by have := HPS15.out.size; have h0 := HE0.out.size; omega))
        have htm := (show TmIs _ _ _ _ _ (node 3 (plA ts i) [r.2, v.2]) from node2 (HTF15.out.fin (by omega) HEb.out) (HTG15.out.fin (by omega) HEb.out) (by have h0 := HE0.out.below.size; have h1 := HE1.out.below.size; omega) HX1c2c3f.out (hd_unary (by omega) HPL.out))
        have hr2 := (PB.out.off (w.heap.size + 1) (by omega)).trans PA.out.here
        have hr3 := PB.out.here
        obtain ⟨⟨r0, r1, r2⟩, d0, d1, d2⟩ := cellsS hr2
        obtain ⟨⟨g0, g1, g2, g3, g4, g5, g6, g7⟩, e0, e1, e2, e3, e4, e5, e6, e7⟩ := cells8' hr3
        have rl2 := lt_of_block hr2
        have rl3 := lt_of_block hr3
        have HTM := Lib.hid htm
        clear htm hr2 hr3
        go_wp2_with (fail)
        refine bodyPost_ret (v := .tuple #[.agg #[.slice (some ⟨g, 0, none⟩) n c, .int .i64 s2.i, .bool s2.bad], .agg #[.int .u8 3, .int .u8 0, .int .i64 ((tel ts i).a : Int), .int .i64 0, .string ⟨#[]⟩, .string ⟨#[]⟩, .string ⟨#[]⟩, .slice (some ⟨v0.heap.size, 0, none⟩) 2 2]]) (by simp [results, Tryz.results117, go_sem, r0, r1, r2, g0, g1, g2, g3, g4, g5, g6, g7, rl2, rl3]) rfl ⟨⟨3, 0, ((tel ts i).a : Int), 0, ⟨#[]⟩, ⟨#[]⟩, ⟨#[]⟩⟩, some ⟨v0.heap.size, 0, none⟩, 2, 2, rfl, HTM.out, HEb.out.below⟩
end Parse
end Go.Proofs.YtadpjkehflokcaaGreatDoor
