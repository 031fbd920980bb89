/-The walks of Erase, the program's and the document's. (Written by wip/tools/aterase2.py.) The document's example: mathematics, and how it lies. (Written by wip/tools/atawake.py.) -/
import Derived.Test.YtolpdhkgkjnbfaaGreatDoorGC09
import Derived.Test.YtolpdhkgkjnbfaaGreatDoorGC10
import Derived.Deep.RegionHeld3
import Derived.Test.YtolpdhkgkjnbfaaGreatDoorGC16
namespace Go.Proofs.YtolpdhkgkjnbfaaGreatDoor
open Go.RowKit
set_option linter.unusedVariables false
set_option linter.unusedSimpArgs false
namespace Aterm
open Effect (lt_of_block heap_alloc_new)
open Rt (box_new box_at below_then)
open Term (Tm TmIs Reads veil veil_to veil_at tcells)

set_option maxRecDepth 100000 in
set_option maxHeartbeats 12800000 in
theorem erase_walk : ∀ (m : Nat) (t : AT) (h : Hd) (v : V) (l : Nat) (w : World), wt t ≤ m → wt t ≤ 100000 → AtIs w h v l t → Calls Tryz.prog 13 #[.agg #[.int .u8 h.h.k, .int .u8 h.h.op, .int .i64 h.h.pl, .int .i64 h.h.n, .string h.h.name, .string h.h.arg, .string h.h.exn, .int .i64 h.rho, .slice v.ra h.rhos.length v.rc, .slice v.ea h.e.length v.ec, .int .u8 h.ty.h.k, .int .i64 h.ty.h.r, .slice v.tea h.ty.h.e.length v.tec, .slice v.tka h.ty.ks.length v.tkc, .int .u8 h.re.h.k, .int .i64 h.re.h.r, .slice v.sea h.re.h.e.length v.sec, .slice v.ska h.re.ks.length v.skc, .slice v.ka l v.kc]] w (EraseEnd (eraseT t) w) := by
  intro m
  induction m with
  | zero => intro t h v l w hm; have := wt_pos t; omega
  | succ m ih =>
    intro t h v l w hm hmm hT
    have hwt := wt_ks t
    have hll : l ≤ 100000 := by have := wts_ge t.ks; rw [hT.len] at this; omega
    have hbox0 : ((w.alloc (.cells #[.int .u8 h.h.k, .int .u8 h.h.op, .int .i64 h.h.pl, .int .i64 h.h.n, .string h.h.name, .string h.h.arg, .string h.h.exn, .int .i64 h.rho, .slice v.ra h.rhos.length v.rc, .slice v.ea h.e.length v.ec, .int .u8 h.ty.h.k, .int .i64 h.ty.h.r, .slice v.tea h.ty.h.e.length v.tec, .slice v.tka h.ty.ks.length v.tkc, .int .u8 h.re.h.k, .int .i64 h.re.h.r, .slice v.sea h.re.h.e.length v.sec, .slice v.ska h.re.ks.length v.skc, .slice v.ka l v.kc] 31)).alloc (.cells #[.int .u8 0, .int .u8 0, .int .i64 0, .int .i64 0, .string ⟨#[]⟩, .string ⟨#[]⟩, .string ⟨#[]⟩, .slice none 0 0] 38)).heap[w.heap.size]? = some (.cells #[.int .u8 h.h.k, .int .u8 h.h.op, .int .i64 h.h.pl, .int .i64 h.h.n, .string h.h.name, .string h.h.arg, .string h.h.exn, .int .i64 h.rho, .slice v.ra h.rhos.length v.rc, .slice v.ea h.e.length v.ec, .int .u8 h.ty.h.k, .int .i64 h.ty.h.r, .slice v.tea h.ty.h.e.length v.tec, .slice v.tka h.ty.ks.length v.tkc, .int .u8 h.re.h.k, .int .i64 h.re.h.r, .slice v.sea h.re.h.e.length v.sec, .slice v.ska h.re.ks.length v.skc, .slice v.ka l v.kc] 31 (0, 0)) := ((box_new _).block _ (by simp)).trans (heap_alloc_new _ _)
    by_cases hr : h.h.k = 17 ∧ t.ks ≠ []
    · have hl0 : 0 < t.ks.length := by have := hr.2; cases hks : t.ks with
                                       | nil => exact absurd hks this
                                       | cons x xs => simp
      have her : eraseT t = eraseT (tget t.ks 0) := by
        cases hks : t.ks with
        | nil => exact absurd hks hr.2
        | cons x xs => exact eraseT_reg (by rw [hT.head]; exact hr.1) hks
      have hlp : decide ((0 : Int) < (l : Int)) = true := decide_eq_true (by rw [hT.len] at hl0; omega)
      have hli : (0 : Int) < (l : Int) := by rw [hT.len] at hl0; omega
      have hwk := wts_get hl0
      have HER := Lib.hid her; have HK := Lib.hid hr.1; have IH := Lib.hid ih; have HT := Lib.hid hT; have HM := Lib.hid (And.intro hm hmm); have HWT := Lib.hid hwt; have HL0 := Lib.hid hl0; have HWK := Lib.hid hwk; have HB9 := Lib.hid hbox0
      clear her hr ih hT hm hmm hwt hl0 hwk hbox0
      go_enter Tryz.func13, Tryz.ntmps13
      go_upto_region 1 with (fail)
      obtain ⟨W0, hW0⟩ : ∃ W0, W0 = (w.alloc (.cells #[.int .u8 h.h.k, .int .u8 h.h.op, .int .i64 h.h.pl, .int .i64 h.h.n, .string h.h.name, .string h.h.arg, .string h.h.exn, .int .i64 h.rho, .slice v.ra h.rhos.length v.rc, .slice v.ea h.e.length v.ec, .int .u8 h.ty.h.k, .int .i64 h.ty.h.r, .slice v.tea h.ty.h.e.length v.tec, .slice v.tka h.ty.ks.length v.tkc, .int .u8 h.re.h.k, .int .i64 h.re.h.r, .slice v.sea h.re.h.e.length v.sec, .slice v.ska h.re.ks.length v.skc, .slice v.ka l v.kc] 31)).alloc (.cells #[.int .u8 0, .int .u8 0, .int .i64 0, .int .i64 0, .string ⟨#[]⟩, .string ⟨#[]⟩, .string ⟨#[]⟩, .slice none 0 0] 38) := ⟨_, rfl⟩
      have hbk : W0.heap[w.heap.size]? = some (.cells #[.int .u8 h.h.k, .int .u8 h.h.op, .int .i64 h.h.pl, .int .i64 h.h.n, .string h.h.name, .string h.h.arg, .string h.h.exn, .int .i64 h.rho, .slice v.ra h.rhos.length v.rc, .slice v.ea h.e.length v.ec, .int .u8 h.ty.h.k, .int .i64 h.ty.h.r, .slice v.tea h.ty.h.e.length v.tec, .slice v.tka h.ty.ks.length v.tkc, .int .u8 h.re.h.k, .int .i64 h.re.h.r, .slice v.sea h.re.h.e.length v.sec, .slice v.ska h.re.ks.length v.skc, .slice v.ka l v.kc] 31 (0, 0)) := by rw [hW0]; exact HB9.out
      have hrs : W0.heap[w.heap.size + 1]? = some (.cells #[.int .u8 0, .int .u8 0, .int .i64 0, .int .i64 0, .string ⟨#[]⟩, .string ⟨#[]⟩, .string ⟨#[]⟩, .slice none 0 0] 38 (0, 0)) := by
        have := heap_alloc_new (w.alloc (.cells #[.int .u8 h.h.k, .int .u8 h.h.op, .int .i64 h.h.pl, .int .i64 h.h.n, .string h.h.name, .string h.h.arg, .string h.h.exn, .int .i64 h.rho, .slice v.ra h.rhos.length v.rc, .slice v.ea h.e.length v.ec, .int .u8 h.ty.h.k, .int .i64 h.ty.h.r, .slice v.tea h.ty.h.e.length v.tec, .slice v.tka h.ty.ks.length v.tkc, .int .u8 h.re.h.k, .int .i64 h.re.h.r, .slice v.sea h.re.h.e.length v.sec, .slice v.ska h.re.ks.length v.skc, .slice v.ka l v.kc] 31)) (.cells #[.int .u8 0, .int .u8 0, .int .i64 0, .int .i64 0, .string ⟨#[]⟩, .string ⟨#[]⟩, .string ⟨#[]⟩, .slice none 0 0] 38)
        rw [World.size_alloc] at this
        rw [hW0]; exact this
      have hsz : W0.heap.size = w.heap.size + 2 := by rw [hW0]; simp
      have hb0 : Below w.heap.size w W0 := by rw [hW0]; exact (box_new _).trans ((box_new _).mono (by simp))
      rw [← hW0]
      clear hW0
      have hbx := box_blk hbk
      have HB0 := Lib.hid hb0; have HRS := Lib.hid hrs; have HSZ := Lib.hid hsz
      obtain ⟨b0, b1, b2, b3, b4, b5, b6, b7, b8, b9, b10, b11, b12, b13, b14, b15, b16, b17, b18⟩ := hbx
      clear hb0 hrs hsz hbk b1 b2 b3 b4 b5 b6 b7 b8 b9 b10 b11 b12 b13 b14 b15 b16 b17
      rw [HK.out] at b0
      obtain ⟨b, o, v2, hp, hkid, hrg⟩ := (HT.out.kids.stay HB0.out).load 0 HL0.out
      rw [hp] at b18
      rw [Nat.zero_mul, Nat.add_zero] at hrg
      have HKID := Lib.hid hkid; have HRG := Lib.hid hrg
      clear hkid hrg hp
      generalize hN0 : w.heap.size = N0 at *
      have HN0 := Lib.hid hN0
      clear hN0
      go_wp2_with (refine at_load rfl _ rfl b o rfl HRG.out ?_)
      refine (IH.out (tget t.ks 0) _ v2 _ W0 (by have := HM.out.1; have := HWT.out; have := HWK.out; omega) (by have := HM.out.2; have := HWT.out; have := HWK.out; omega) HKID.out).mono ?_
      rintro e w2 ⟨q, c, rfl, hT2, hb2⟩
      have hrs2 := (hb2.block _ (by rw [HSZ.out]; omega)).trans HRS.out
      obtain ⟨⟨r0, r1, r2, r3, r4, r5, r6, r7⟩, g0, g1, g2, g3, g4, g5, g6, g7⟩ := cells8t hrs2
      have HT2 := Lib.hid hT2; have HB2 := Lib.hid hb2
      clear hT2 hb2 hrs2 b0 b18
      rw [HER.out]
      generalize hE : eraseT (tget t.ks 0) = E at *
      have HE := Lib.hid hE
      clear hE
      go_wp2_with (fail)
      refine bodyPost_ret (v := .agg #[.int .u8 E.h.k, .int .u8 E.h.op, .int .i64 E.h.pl, .int .i64 E.h.n, .string E.h.name, .string E.h.arg, .string E.h.exn, .slice q E.ks.length c]) (by simp [results, Tryz.results13, go_sem, r0, r1, r2, r3, r4, r5, r6, r7]) rfl ?_
      have h0 := HB0.out
      rw [← HN0.out] at h0 ⊢
      rw [HER.out]
      refine ⟨q, c, rfl, ?_, (h0.trans (HB2.out.mono h0.size)).trans (set8_below _ _ _ _ _ _ _ _ (by omega))⟩
      refine HT2.out.reads' (veil_to fun i hi hp => ?_)
      have hp' : W0.heap.size ≤ i := of_decide_eq_true hp
      rw [HSZ.out] at hp'
      exact ⟨decide_eq_true (by have := HN0.out; omega), set8_other _ _ _ _ _ _ _ _ _ _ (by have := HN0.out; omega)⟩
    have her : eraseT t = .node (bareH h) (eraseK t.ks) := by
      have := eraseT_no (t := t) (by rw [hT.head]; exact hr)
      rw [hT.head] at this
      exact this
    have hcase : ((h.h.k == 17) = true ∧ (h.h.k == 18) = false ∧ (bareH h).k = h.h.k ∧ decide (0 < l) = false) ∨ ((h.h.k == 17) = false ∧ (h.h.k == 18) = true ∧ (bareH h).k = 2 ∧ True) ∨ ((h.h.k == 17) = false ∧ (h.h.k == 18) = false ∧ (bareH h).k = h.h.k ∧ True) := by
      unfold bareH
      by_cases h17 : h.h.k = 17
      · left
        have hks : t.ks = [] := Classical.byContradiction fun hn => hr ⟨h17, hn⟩
        have hl : l = 0 := by rw [← hT.len, hks]; rfl
        rw [h17]
        exact ⟨by decide, by decide, by simp [h17], by rw [hl]; decide⟩
      · by_cases h18 : h.h.k = 18
        · exact .inr (.inl ⟨by simpa using h17, by simpa using h18, by simp [h18], trivial⟩)
        · exact .inr (.inr ⟨by simpa using h17, by simpa using h18, by simp [h18], trivial⟩)
    have hst := erase_start w h v l
    obtain ⟨i0, hi0, hz0, hz1, hz2⟩ := info_parts Term.infoTerm
    have HI0 := Lib.hid hi0; have HZ0 := Lib.hid hz0; have HZ1 := Lib.hid hz1; have HZ2 := Lib.hid hz2
    have HER := Lib.hid her; have IH := Lib.hid ih; have HT := Lib.hid hT; have HM := Lib.hid (And.intro hm hmm); have HWT := Lib.hid hwt; have HB9 := Lib.hid hbox0
    clear her hr ih hT hm hmm hwt hbox0 hi0 hz0 hz1 hz2
    rcases hcase with ⟨e17, e18, hbk, hl0⟩ | ⟨e17, e18, hbk, -⟩ | ⟨e17, e18, hbk, -⟩
    all_goals
      rw [hbk] at hst
      have HST := Lib.hid hst; have HBK := Lib.hid hbk
      clear hst hbk
      go_enter Tryz.func13, Tryz.ntmps13
      go_upto_region 1 with (fail)
      obtain ⟨W0, hW0⟩ : ∃ W0, W0 = (w.alloc (.cells #[.int .u8 h.h.k, .int .u8 h.h.op, .int .i64 h.h.pl, .int .i64 h.h.n, .string h.h.name, .string h.h.arg, .string h.h.exn, .int .i64 h.rho, .slice v.ra h.rhos.length v.rc, .slice v.ea h.e.length v.ec, .int .u8 h.ty.h.k, .int .i64 h.ty.h.r, .slice v.tea h.ty.h.e.length v.tec, .slice v.tka h.ty.ks.length v.tkc, .int .u8 h.re.h.k, .int .i64 h.re.h.r, .slice v.sea h.re.h.e.length v.sec, .slice v.ska h.re.ks.length v.skc, .slice v.ka l v.kc] 31)).alloc (.cells #[.int .u8 0, .int .u8 0, .int .i64 0, .int .i64 0, .string ⟨#[]⟩, .string ⟨#[]⟩, .string ⟨#[]⟩, .slice none 0 0] 38) := ⟨_, rfl⟩
      have hbk : W0.heap[w.heap.size]? = some (.cells #[.int .u8 h.h.k, .int .u8 h.h.op, .int .i64 h.h.pl, .int .i64 h.h.n, .string h.h.name, .string h.h.arg, .string h.h.exn, .int .i64 h.rho, .slice v.ra h.rhos.length v.rc, .slice v.ea h.e.length v.ec, .int .u8 h.ty.h.k, .int .i64 h.ty.h.r, .slice v.tea h.ty.h.e.length v.tec, .slice v.tka h.ty.ks.length v.tkc, .int .u8 h.re.h.k, .int .i64 h.re.h.r, .slice v.sea h.re.h.e.length v.sec, .slice v.ska h.re.ks.length v.skc, .slice v.ka l v.kc] 31 (0, 0)) := by rw [hW0]; exact HB9.out
      have hsz : W0.heap.size = w.heap.size + 2 := by rw [hW0]; simp
      rw [← hW0] at HST ⊢
      clear hW0
      have hbx := box_blk hbk
      obtain ⟨b0, b1, b2, b3, b4, b5, b6, b7, b8, b9, b10, b11, b12, b13, b14, b15, b16, b17, b18⟩ := hbx
      have hlt0 : w.heap.size < W0.heap.size := by omega
      have HSZ := Lib.hid hsz
      clear hbk hsz b7 b8 b9 b10 b11 b12 b13 b14 b15 b16 b17
      go_upto_region 6 with (fail)
      generalize hW3 : W0.alloc _ = W3 at HST ⊢
      rw [HSZ.out]
      clear hW3
      have hb3 := box_blk HST.out.box
      obtain ⟨b0, b1, b2, b3, b4, b5, b6, b7, b8, b9, b10, b11, b12, b13, b14, b15, b16, b17, b18⟩ := hb3
      clear b0 b1 b2 b3 b4 b5 b6 b7 b8 b9 b10 b11 b12 b13 b14 b15 b16 b17
      go_wp2_with (fail)
      clear b18
      go_loopw [5, 33] (fun _ i wr => ∃ (j : Nat) (a : Option Addr) (c0 : Nat), j ≤ l ∧ i = .int .i64 j ∧ Hid (EraseAt w h v l (eraseK (t.ks.take j)) j a c0 wr)) (fun _ i _ => l - (intOf i).toNat)
      case atStart => exact ⟨0, none, 0, Nat.zero_le _, rfl, Lib.hid (by rw [List.take_zero, eraseK_nil]; exact HST.out)⟩
      case round =>
        obtain ⟨j, a, c0, hj, rfl, HA⟩ := hrel
        by_cases hlt : j < l
        · have hjk : j < t.ks.length := by rw [HT.out.len]; exact hlt
          obtain ⟨bb, o, v2, hp, hkid, hrg⟩ := HT.out.kids.load j hjk
          have hwk := wts_get hjk
          have htk : eraseK (t.ks.take (j + 1)) = eraseK (t.ks.take j) ++ [eraseT (tget t.ks j)] := by rw [take_tget t.ks j hjk, eraseK_map, eraseK_map, List.map_append]; rfl
          have hm1 : wt (tget t.ks j) ≤ m := by have := HM.out.1; have := HWT.out; omega
          have hm2 : wt (tget t.ks j) ≤ 100000 := by have := HM.out.2; have := HWT.out; omega
          have hl2 := lt_of_block HA.out.out
          have hout := HA.out.out
          have o7 : wr.cell? ⟨w.heap.size + 2, 7, none⟩ = some (.slice a j c0) := by simp [World.cell?, hout]
          have hrow := HA.out.row
          have j0 : (0 : Int) ≤ (j : Int) := by omega
          have j1 : (j : Int) < (l : Int) := by omega
          have HL2 := Lib.hid hl2; have HOUT := Lib.hid hout; have HROW := Lib.hid hrow
          clear hl2 hout hrow hwk
          have HRG := Lib.hid (range_below hrg HA.out.below)
          have HKID := Lib.hid (hkid.below HA.out.below)
          obtain ⟨u, hu⟩ : ∃ u, u = eraseT (tget t.ks j) := ⟨_, rfl⟩
          rw [← hu] at htk
          have HTK := Lib.hid htk; have HU := Lib.hid hu
          clear hrg hkid htk hu hjk
          rw [hp]
          go_upto_region 9 with (first | refine at_load rfl _ rfl bb (o + j * 19) rfl HRG.out ?_ | refine at_store rfl _ _ rfl _ rfl (tget t.ks j).h v2 (tget t.ks j).ks.length rfl rfl ?_)
          have hn1 := heap_alloc_new wr (.cells #[.int .u8 (tget t.ks j).h.h.k, .int .u8 (tget t.ks j).h.h.op, .int .i64 (tget t.ks j).h.h.pl, .int .i64 (tget t.ks j).h.h.n, .string (tget t.ks j).h.h.name, .string (tget t.ks j).h.h.arg, .string (tget t.ks j).h.h.exn, .int .i64 (tget t.ks j).h.rho, .slice v2.ra (tget t.ks j).h.rhos.length v2.rc, .slice v2.ea (tget t.ks j).h.e.length v2.ec, .int .u8 (tget t.ks j).h.ty.h.k, .int .i64 (tget t.ks j).h.ty.h.r, .slice v2.tea (tget t.ks j).h.ty.h.e.length v2.tec, .slice v2.tka (tget t.ks j).h.ty.ks.length v2.tkc, .int .u8 (tget t.ks j).h.re.h.k, .int .i64 (tget t.ks j).h.re.h.r, .slice v2.sea (tget t.ks j).h.re.h.e.length v2.sec, .slice v2.ska (tget t.ks j).h.re.ks.length v2.skc, .slice v2.ka (tget t.ks j).ks.length v2.kc] 31)
          have hbw := box_new (w := wr) (.cells #[.int .u8 (tget t.ks j).h.h.k, .int .u8 (tget t.ks j).h.h.op, .int .i64 (tget t.ks j).h.h.pl, .int .i64 (tget t.ks j).h.h.n, .string (tget t.ks j).h.h.name, .string (tget t.ks j).h.h.arg, .string (tget t.ks j).h.h.exn, .int .i64 (tget t.ks j).h.rho, .slice v2.ra (tget t.ks j).h.rhos.length v2.rc, .slice v2.ea (tget t.ks j).h.e.length v2.ec, .int .u8 (tget t.ks j).h.ty.h.k, .int .i64 (tget t.ks j).h.ty.h.r, .slice v2.tea (tget t.ks j).h.ty.h.e.length v2.tec, .slice v2.tka (tget t.ks j).h.ty.ks.length v2.tkc, .int .u8 (tget t.ks j).h.re.h.k, .int .i64 (tget t.ks j).h.re.h.r, .slice v2.sea (tget t.ks j).h.re.h.e.length v2.sec, .slice v2.ska (tget t.ks j).h.re.ks.length v2.skc, .slice v2.ka (tget t.ks j).ks.length v2.kc] 31)
          generalize hW1 : wr.alloc (.cells #[.int .u8 (tget t.ks j).h.h.k, .int .u8 (tget t.ks j).h.h.op, .int .i64 (tget t.ks j).h.h.pl, .int .i64 (tget t.ks j).h.h.n, .string (tget t.ks j).h.h.name, .string (tget t.ks j).h.h.arg, .string (tget t.ks j).h.h.exn, .int .i64 (tget t.ks j).h.rho, .slice v2.ra (tget t.ks j).h.rhos.length v2.rc, .slice v2.ea (tget t.ks j).h.e.length v2.ec, .int .u8 (tget t.ks j).h.ty.h.k, .int .i64 (tget t.ks j).h.ty.h.r, .slice v2.tea (tget t.ks j).h.ty.h.e.length v2.tec, .slice v2.tka (tget t.ks j).h.ty.ks.length v2.tkc, .int .u8 (tget t.ks j).h.re.h.k, .int .i64 (tget t.ks j).h.re.h.r, .slice v2.sea (tget t.ks j).h.re.h.e.length v2.sec, .slice v2.ska (tget t.ks j).h.re.ks.length v2.skc, .slice v2.ka (tget t.ks j).ks.length v2.kc] 31) = W1 at hn1 hbw ⊢
          clear hW1
          have q7 : W1.cell? ⟨w.heap.size + 2, 7, none⟩ = some (.slice a j c0) := (hbw.cell (p := ⟨w.heap.size + 2, 7, none⟩) HL2.out).trans o7
          have hcall := IH.out (tget t.ks j) (tget t.ks j).h v2 (tget t.ks j).ks.length W1.drew hm1 hm2 (HKID.out.below (hbw.trans (Below.refl _ _).drew))
          rw [← HU.out] at hcall
          have HCALL := Lib.hid hcall; have HBW := Lib.hid hbw; have HN1 := Lib.hid hn1; have HQ7 := Lib.hid q7
          clear hcall o7 hbw
          refine wp_region_held_drew (S := fun (V : World) => V.heap[wr.heap.size]? = some (.cells #[.int .u8 (tget t.ks j).h.h.k, .int .u8 (tget t.ks j).h.h.op, .int .i64 (tget t.ks j).h.h.pl, .int .i64 (tget t.ks j).h.h.n, .string (tget t.ks j).h.h.name, .string (tget t.ks j).h.h.arg, .string (tget t.ks j).h.h.exn, .int .i64 (tget t.ks j).h.rho, .slice v2.ra (tget t.ks j).h.rhos.length v2.rc, .slice v2.ea (tget t.ks j).h.e.length v2.ec, .int .u8 (tget t.ks j).h.ty.h.k, .int .i64 (tget t.ks j).h.ty.h.r, .slice v2.tea (tget t.ks j).h.ty.h.e.length v2.tec, .slice v2.tka (tget t.ks j).h.ty.ks.length v2.tkc, .int .u8 (tget t.ks j).h.re.h.k, .int .i64 (tget t.ks j).h.re.h.r, .slice v2.sea (tget t.ks j).h.re.h.e.length v2.sec, .slice v2.ska (tget t.ks j).h.re.ks.length v2.skc, .slice v2.ka (tget t.ks j).ks.length v2.kc] 31 (0, 0))) (by kernel_rfl) HN1.out (fun hHeld => ?_)
          refine wpAnyH_take (i := 0) (v := .pointer (some ⟨w.heap.size + 2, 7, none⟩)) rfl (by kernel_rfl) (by kernel_rfl) (by kernel_rfl) (fun _ _ _ h => h) (Or.inl ⟨by rfl, ?_⟩) (by assumption) ?_
          · intro w' hSw
            first | (go_simp; done) | (go_simp; intro h0; omega) | rfl
          try simp only [Act.put, List.getElem_toArray, List.getElem_cons_succ, List.getElem_cons_zero, List.setIfInBounds_toArray, List.set_cons_zero, List.set_cons_succ]
          refine wpAnyH_take (i := 2) (v := .agg #[.int .u8 (tget t.ks j).h.h.k, .int .u8 (tget t.ks j).h.h.op, .int .i64 (tget t.ks j).h.h.pl, .int .i64 (tget t.ks j).h.h.n, .string (tget t.ks j).h.h.name, .string (tget t.ks j).h.h.arg, .string (tget t.ks j).h.h.exn, .int .i64 (tget t.ks j).h.rho, .slice v2.ra (tget t.ks j).h.rhos.length v2.rc, .slice v2.ea (tget t.ks j).h.e.length v2.ec, .int .u8 (tget t.ks j).h.ty.h.k, .int .i64 (tget t.ks j).h.ty.h.r, .slice v2.tea (tget t.ks j).h.ty.h.e.length v2.tec, .slice v2.tka (tget t.ks j).h.ty.ks.length v2.tkc, .int .u8 (tget t.ks j).h.re.h.k, .int .i64 (tget t.ks j).h.re.h.r, .slice v2.sea (tget t.ks j).h.re.h.e.length v2.sec, .slice v2.ska (tget t.ks j).h.re.ks.length v2.skc, .slice v2.ka (tget t.ks j).ks.length v2.kc]) rfl (by kernel_rfl) (by kernel_rfl) (by kernel_rfl) (fun _ _ _ h => h) (Or.inl ⟨by rfl, ?_⟩) (by assumption) ?_
          · intro w' hSw
            exact exec_at _ rfl wr.heap.size 0 rfl (box_blk hSw).range
          try simp only [Act.put, List.getElem_toArray, List.getElem_cons_succ, List.getElem_cons_zero, List.setIfInBounds_toArray, List.set_cons_zero, List.set_cons_succ]
          refine wpAnyH_ready (rs := [1, 3]) (by kernel_rfl) (by simp) ?_
          refine AllReadyH.cons rfl (fun K hK => ?_) (AllReadyH.cons rfl (fun K hK => ?_) AllReadyH.nil)
          · have HK2 := Lib.hid hK
            clear hK
            try rw [if_pos (by rfl)]
            go_simp
            refine HK2.out _ _ HN1.out (fun hHeld => ?_)
            clear HK2
            try simp only [Act.put, List.getElem_toArray, List.getElem_cons_succ, List.getElem_cons_zero, List.setIfInBounds_toArray, List.set_cons_zero, List.set_cons_succ]
            clear K
            refine wpAnyH_ready (rs := [3]) (by kernel_rfl) (by simp) ?_
            refine AllReadyH.cons rfl (fun K hK => ?_) AllReadyH.nil
            have HK2 := Lib.hid hK
            clear hK
            try rw [if_pos (by rfl)]
            go_simp
            refine HCALL.out.mono ?_
            rintro en w2 ⟨q2, c2, rfl, hT2, hb2d⟩
            have hb2x := undrew' hb2d
            have hb2 : Below wr.heap.size wr w2 := below_then HBW.out hb2x HBW.out.size
            have hm2' : wr.heap.size ≤ W1.drew.heap.size := HBW.out.size
            have HT2 := Lib.hid hT2; have HB2 := Lib.hid hb2; have HM2 := Lib.hid hm2'
            clear hT2 hb2d hm2'
            refine HK2.out _ _ (hb2x.block _ (lt_of_block HN1.out) |>.trans HN1.out) (fun hHeld => ?_)
            clear HK2
            try simp only [Act.put, List.getElem_toArray, List.getElem_cons_succ, List.getElem_cons_zero, List.setIfInBounds_toArray, List.set_cons_zero, List.set_cons_succ]
            clear K
            refine wpAnyH_ready (rs := [4]) (by kernel_rfl) (by simp) ?_
            refine AllReadyH.cons rfl (fun K hK => ?_) AllReadyH.nil
            have HK2 := Lib.hid hK
            clear hK
            have hz2 : w2.heap.size = w2.heap.size := rfl
            try rw [if_pos (by rfl)]
            go_simp
            refine HK2.out _ _ ((hb2x.alloc hb2x.size _).block _ (lt_of_block HN1.out) |>.trans HN1.out) (fun hHeld => ?_)
            clear HK2
            try simp only [Act.put, List.getElem_toArray, List.getElem_cons_succ, List.getElem_cons_zero, List.setIfInBounds_toArray, List.set_cons_zero, List.set_cons_succ]
            clear K
            refine wpAnyH_ready (rs := [5]) (by kernel_rfl) (by simp) ?_
            refine AllReadyH.cons rfl (fun K hK => ?_) AllReadyH.nil
            have HK2 := Lib.hid hK
            clear hK
            obtain ⟨xs, hown, hflat⟩ := HROW.out
            have hown' : wr.ownsRow (w.heap.size + 3) 38 8 (.slice a j c0) j xs := by rw [HA.out.len] at hown; exact hown
            have hr1 : (w2.alloc (.cells #[.int .u8 u.h.k, .int .u8 u.h.op, .int .i64 u.h.pl, .int .i64 u.h.n, .string u.h.name, .string u.h.arg, .string u.h.exn, .slice q2 u.ks.length c2] 38)).ownsRow (w.heap.size + 3) 38 8 (.slice a j c0) j xs := own_below hown' (HB2.out.alloc HB2.out.size _)
            have hr2 : Term.Flat (veil (seen (w.heap.size + 3) (.slice a j c0)) (w2.alloc (.cells #[.int .u8 u.h.k, .int .u8 u.h.op, .int .i64 u.h.pl, .int .i64 u.h.n, .string u.h.name, .string u.h.arg, .string u.h.exn, .slice q2 u.ks.length c2] 38))) xs (eraseK (t.ks.take j)) := hflat.reads (veil_to fun b hbl hp => ⟨hp, (HB2.out.alloc HB2.out.size _).block b hbl⟩)
            refine step_append_lies _ (by rfl) _ _ _ (by rfl) (w.heap.size + 3) 38 i0 _ 8 96 Tryz.underlying36 HI0.out HZ0.out HZ1.out HZ2.out rfl (by omega) (.slice a j c0) j xs (by rfl) hr1 ⟨w2.heap.size, 0, none⟩ 1 1 (tcells u.h q2 u.ks.length c2) (by rfl) (by rfl) (new8 rfl) (cells_one8 _ _ _ _) (by omega) (by unfold maxLen; omega) (by omega) (by have := HB2.out.size; have := HL2.out; simp; omega) (w2.heap.size + 1) (by simp) ?_
            intro gg cap w3 hown3 hgrow3 hat3 hlt3
            obtain ⟨⟨s0, s1⟩, s2, s3, s4, s5⟩ := erase_step HA.out HB2.out hr1 hr2 HT2.out HM2.out hown3 hgrow3 (told_of hat3)
            have HS2 := Lib.hid s2; have HS3 := Lib.hid s3; have HS4 := Lib.hid s4; have HS5 := Lib.hid s5
            clear hown hflat hown' hr1 hr2 hown3 hgrow3 hat3 hlt3 s2 s3 s4 s5
            refine HK2.out _ _ ((HS5.out _ (Nat.le_refl _) (by have := lt_of_block HN1.out; have := hb2x.size; simp; omega)).trans ((hb2x.alloc hb2x.size _).block _ (lt_of_block HN1.out) |>.trans HN1.out)) (fun hHeld => ?_)
            clear HK2
            try simp only [Act.put, List.getElem_toArray, List.getElem_cons_succ, List.getElem_cons_zero, List.setIfInBounds_toArray, List.set_cons_zero, List.set_cons_succ]
            clear K
            refine wpAnyH_ready (rs := [6]) (by kernel_rfl) (by simp) ?_
            refine AllReadyH.cons rfl (fun K hK => ?_) AllReadyH.nil
            have HK2 := Lib.hid hK
            clear hK
            try rw [if_pos (by rfl)]
            go_simp
            refine HK2.out _ _ ((HS5.out _ (Nat.le_refl _) (by have := lt_of_block HN1.out; have := hb2x.size; simp; omega)).trans ((hb2x.alloc hb2x.size _).block _ (lt_of_block HN1.out) |>.trans HN1.out)) (fun hHeld => ?_)
            clear HK2
            try simp only [Act.put, List.getElem_toArray, List.getElem_cons_succ, List.getElem_cons_zero, List.setIfInBounds_toArray, List.set_cons_zero, List.set_cons_succ]
            clear K
            refine wpAnyH_ready (rs := [7]) (by kernel_rfl) (by simp) ?_
            refine AllReadyH.cons rfl (fun K hK => ?_) AllReadyH.nil
            have HK2 := Lib.hid hK
            clear hK
            try rw [if_pos (by rfl)]
            go_simp
            refine HK2.out _ _ ((Below.heap_setCell _ _ _ _ (by show wr.heap.size ≠ w.heap.size + 2; have := HL2.out; omega)).trans ((HS5.out _ (Nat.le_refl _) (by have := lt_of_block HN1.out; have := hb2x.size; simp; omega)).trans ((hb2x.alloc hb2x.size _).block _ (lt_of_block HN1.out) |>.trans HN1.out))) (fun hHeld => ?_)
            clear HK2
            try simp only [Act.put, List.getElem_toArray, List.getElem_cons_succ, List.getElem_cons_zero, List.setIfInBounds_toArray, List.set_cons_zero, List.set_cons_succ]
            clear K
            refine wpAnyH_done (by kernel_rfl) ?_ _
            clear hHeld
            go_wp2_with (fail)
            go_roundw
            case rel => first | exact ⟨j + 1, some ⟨gg, 0, none⟩, cap, by omega, by go_num, Lib.hid (by rw [HTK.out]; exact HS2.out)⟩ | exact ⟨j + 1, by omega, by go_num, some ⟨gg, 0, none⟩, cap, Lib.hid (by rw [HTK.out]; exact HS2.out)⟩
            case measure => simp [intOf]; omega
          · have HK2 := Lib.hid hK
            clear hK
            try rw [if_pos (by rfl)]
            go_simp
            refine HCALL.out.mono ?_
            rintro en w2 ⟨q2, c2, rfl, hT2, hb2d⟩
            have hb2x := undrew' hb2d
            have hb2 : Below wr.heap.size wr w2 := below_then HBW.out hb2x HBW.out.size
            have hm2' : wr.heap.size ≤ W1.drew.heap.size := HBW.out.size
            have HT2 := Lib.hid hT2; have HB2 := Lib.hid hb2; have HM2 := Lib.hid hm2'
            clear hT2 hb2d hm2'
            refine HK2.out _ _ (hb2x.block _ (lt_of_block HN1.out) |>.trans HN1.out) (fun hHeld => ?_)
            clear HK2
            try simp only [Act.put, List.getElem_toArray, List.getElem_cons_succ, List.getElem_cons_zero, List.setIfInBounds_toArray, List.set_cons_zero, List.set_cons_succ]
            clear K
            have q8 : w2.cell? ⟨w.heap.size + 2, 7, none⟩ = some (.slice a j c0) := by have := (HB2.out.block _ HL2.out).trans HOUT.out; simp [World.cell?, this]
            have q9 : w.heap.size + 2 < w2.heap.size := by have := HB2.out.size; have := HL2.out; omega
            refine wpAnyH_ready (rs := [1, 4]) (by kernel_rfl) (by simp) ?_
            refine AllReadyH.cons rfl (fun K hK => ?_) (AllReadyH.cons rfl (fun K hK => ?_) AllReadyH.nil)
            · have HK2 := Lib.hid hK
              clear hK
              try rw [if_pos (by rfl)]
              go_simp
              refine HK2.out _ _ (hb2x.block _ (lt_of_block HN1.out) |>.trans HN1.out) (fun hHeld => ?_)
              clear HK2
              try simp only [Act.put, List.getElem_toArray, List.getElem_cons_succ, List.getElem_cons_zero, List.setIfInBounds_toArray, List.set_cons_zero, List.set_cons_succ]
              clear K
              refine wpAnyH_ready (rs := [4]) (by kernel_rfl) (by simp) ?_
              refine AllReadyH.cons rfl (fun K hK => ?_) AllReadyH.nil
              have HK2 := Lib.hid hK
              clear hK
              have hz2 : w2.heap.size = w2.heap.size := rfl
              try rw [if_pos (by rfl)]
              go_simp
              refine HK2.out _ _ ((hb2x.alloc hb2x.size _).block _ (lt_of_block HN1.out) |>.trans HN1.out) (fun hHeld => ?_)
              clear HK2
              try simp only [Act.put, List.getElem_toArray, List.getElem_cons_succ, List.getElem_cons_zero, List.setIfInBounds_toArray, List.set_cons_zero, List.set_cons_succ]
              clear K
              refine wpAnyH_ready (rs := [5]) (by kernel_rfl) (by simp) ?_
              refine AllReadyH.cons rfl (fun K hK => ?_) AllReadyH.nil
              have HK2 := Lib.hid hK
              clear hK
              obtain ⟨xs, hown, hflat⟩ := HROW.out
              have hown' : wr.ownsRow (w.heap.size + 3) 38 8 (.slice a j c0) j xs := by rw [HA.out.len] at hown; exact hown
              have hr1 : (w2.alloc (.cells #[.int .u8 u.h.k, .int .u8 u.h.op, .int .i64 u.h.pl, .int .i64 u.h.n, .string u.h.name, .string u.h.arg, .string u.h.exn, .slice q2 u.ks.length c2] 38)).ownsRow (w.heap.size + 3) 38 8 (.slice a j c0) j xs := own_below hown' (HB2.out.alloc HB2.out.size _)
              have hr2 : Term.Flat (veil (seen (w.heap.size + 3) (.slice a j c0)) (w2.alloc (.cells #[.int .u8 u.h.k, .int .u8 u.h.op, .int .i64 u.h.pl, .int .i64 u.h.n, .string u.h.name, .string u.h.arg, .string u.h.exn, .slice q2 u.ks.length c2] 38))) xs (eraseK (t.ks.take j)) := hflat.reads (veil_to fun b hbl hp => ⟨hp, (HB2.out.alloc HB2.out.size _).block b hbl⟩)
              refine step_append_lies _ (by rfl) _ _ _ (by rfl) (w.heap.size + 3) 38 i0 _ 8 96 Tryz.underlying36 HI0.out HZ0.out HZ1.out HZ2.out rfl (by omega) (.slice a j c0) j xs (by rfl) hr1 ⟨w2.heap.size, 0, none⟩ 1 1 (tcells u.h q2 u.ks.length c2) (by rfl) (by rfl) (new8 rfl) (cells_one8 _ _ _ _) (by omega) (by unfold maxLen; omega) (by omega) (by have := HB2.out.size; have := HL2.out; simp; omega) (w2.heap.size + 1) (by simp) ?_
              intro gg cap w3 hown3 hgrow3 hat3 hlt3
              obtain ⟨⟨s0, s1⟩, s2, s3, s4, s5⟩ := erase_step HA.out HB2.out hr1 hr2 HT2.out HM2.out hown3 hgrow3 (told_of hat3)
              have HS2 := Lib.hid s2; have HS3 := Lib.hid s3; have HS4 := Lib.hid s4; have HS5 := Lib.hid s5
              clear hown hflat hown' hr1 hr2 hown3 hgrow3 hat3 hlt3 s2 s3 s4 s5
              refine HK2.out _ _ ((HS5.out _ (Nat.le_refl _) (by have := lt_of_block HN1.out; have := hb2x.size; simp; omega)).trans ((hb2x.alloc hb2x.size _).block _ (lt_of_block HN1.out) |>.trans HN1.out)) (fun hHeld => ?_)
              clear HK2
              try simp only [Act.put, List.getElem_toArray, List.getElem_cons_succ, List.getElem_cons_zero, List.setIfInBounds_toArray, List.set_cons_zero, List.set_cons_succ]
              clear K
              refine wpAnyH_ready (rs := [6]) (by kernel_rfl) (by simp) ?_
              refine AllReadyH.cons rfl (fun K hK => ?_) AllReadyH.nil
              have HK2 := Lib.hid hK
              clear hK
              try rw [if_pos (by rfl)]
              go_simp
              refine HK2.out _ _ ((HS5.out _ (Nat.le_refl _) (by have := lt_of_block HN1.out; have := hb2x.size; simp; omega)).trans ((hb2x.alloc hb2x.size _).block _ (lt_of_block HN1.out) |>.trans HN1.out)) (fun hHeld => ?_)
              clear HK2
              try simp only [Act.put, List.getElem_toArray, List.getElem_cons_succ, List.getElem_cons_zero, List.setIfInBounds_toArray, List.set_cons_zero, List.set_cons_succ]
              clear K
              refine wpAnyH_ready (rs := [7]) (by kernel_rfl) (by simp) ?_
              refine AllReadyH.cons rfl (fun K hK => ?_) AllReadyH.nil
              have HK2 := Lib.hid hK
              clear hK
              try rw [if_pos (by rfl)]
              go_simp
              refine HK2.out _ _ ((Below.heap_setCell _ _ _ _ (by show wr.heap.size ≠ w.heap.size + 2; have := HL2.out; omega)).trans ((HS5.out _ (Nat.le_refl _) (by have := lt_of_block HN1.out; have := hb2x.size; simp; omega)).trans ((hb2x.alloc hb2x.size _).block _ (lt_of_block HN1.out) |>.trans HN1.out))) (fun hHeld => ?_)
              clear HK2
              try simp only [Act.put, List.getElem_toArray, List.getElem_cons_succ, List.getElem_cons_zero, List.setIfInBounds_toArray, List.set_cons_zero, List.set_cons_succ]
              clear K
              refine wpAnyH_done (by kernel_rfl) ?_ _
              clear hHeld
              go_wp2_with (fail)
              go_roundw
              case rel => first | exact ⟨j + 1, some ⟨gg, 0, none⟩, cap, by omega, by go_num, Lib.hid (by rw [HTK.out]; exact HS2.out)⟩ | exact ⟨j + 1, by omega, by go_num, some ⟨gg, 0, none⟩, cap, Lib.hid (by rw [HTK.out]; exact HS2.out)⟩
              case measure => simp [intOf]; omega
            · have HK2 := Lib.hid hK
              clear hK
              have hz2 : w2.heap.size = w2.heap.size := rfl
              try rw [if_pos (by rfl)]
              go_simp
              refine HK2.out _ _ ((hb2x.alloc hb2x.size _).block _ (lt_of_block HN1.out) |>.trans HN1.out) (fun hHeld => ?_)
              clear HK2
              try simp only [Act.put, List.getElem_toArray, List.getElem_cons_succ, List.getElem_cons_zero, List.setIfInBounds_toArray, List.set_cons_zero, List.set_cons_succ]
              clear K
              refine wpAnyH_ready (rs := [1]) (by kernel_rfl) (by simp) ?_
              refine AllReadyH.cons rfl (fun K hK => ?_) AllReadyH.nil
              have HK2 := Lib.hid hK
              clear hK
              try rw [if_pos (by rfl)]
              go_simp
              refine HK2.out _ _ ((hb2x.alloc hb2x.size _).block _ (lt_of_block HN1.out) |>.trans HN1.out) (fun hHeld => ?_)
              clear HK2
              try simp only [Act.put, List.getElem_toArray, List.getElem_cons_succ, List.getElem_cons_zero, List.setIfInBounds_toArray, List.set_cons_zero, List.set_cons_succ]
              clear K
              refine wpAnyH_ready (rs := [5]) (by kernel_rfl) (by simp) ?_
              refine AllReadyH.cons rfl (fun K hK => ?_) AllReadyH.nil
              have HK2 := Lib.hid hK
              clear hK
              obtain ⟨xs, hown, hflat⟩ := HROW.out
              have hown' : wr.ownsRow (w.heap.size + 3) 38 8 (.slice a j c0) j xs := by rw [HA.out.len] at hown; exact hown
              have hr1 : (w2.alloc (.cells #[.int .u8 u.h.k, .int .u8 u.h.op, .int .i64 u.h.pl, .int .i64 u.h.n, .string u.h.name, .string u.h.arg, .string u.h.exn, .slice q2 u.ks.length c2] 38)).ownsRow (w.heap.size + 3) 38 8 (.slice a j c0) j xs := own_below hown' (HB2.out.alloc HB2.out.size _)
              have hr2 : Term.Flat (veil (seen (w.heap.size + 3) (.slice a j c0)) (w2.alloc (.cells #[.int .u8 u.h.k, .int .u8 u.h.op, .int .i64 u.h.pl, .int .i64 u.h.n, .string u.h.name, .string u.h.arg, .string u.h.exn, .slice q2 u.ks.length c2] 38))) xs (eraseK (t.ks.take j)) := hflat.reads (veil_to fun b hbl hp => ⟨hp, (HB2.out.alloc HB2.out.size _).block b hbl⟩)
              refine step_append_lies _ (by rfl) _ _ _ (by rfl) (w.heap.size + 3) 38 i0 _ 8 96 Tryz.underlying36 HI0.out HZ0.out HZ1.out HZ2.out rfl (by omega) (.slice a j c0) j xs (by rfl) hr1 ⟨w2.heap.size, 0, none⟩ 1 1 (tcells u.h q2 u.ks.length c2) (by rfl) (by rfl) (new8 rfl) (cells_one8 _ _ _ _) (by omega) (by unfold maxLen; omega) (by omega) (by have := HB2.out.size; have := HL2.out; simp; omega) (w2.heap.size + 1) (by simp) ?_
              intro gg cap w3 hown3 hgrow3 hat3 hlt3
              obtain ⟨⟨s0, s1⟩, s2, s3, s4, s5⟩ := erase_step HA.out HB2.out hr1 hr2 HT2.out HM2.out hown3 hgrow3 (told_of hat3)
              have HS2 := Lib.hid s2; have HS3 := Lib.hid s3; have HS4 := Lib.hid s4; have HS5 := Lib.hid s5
              clear hown hflat hown' hr1 hr2 hown3 hgrow3 hat3 hlt3 s2 s3 s4 s5
              refine HK2.out _ _ ((HS5.out _ (Nat.le_refl _) (by have := lt_of_block HN1.out; have := hb2x.size; simp; omega)).trans ((hb2x.alloc hb2x.size _).block _ (lt_of_block HN1.out) |>.trans HN1.out)) (fun hHeld => ?_)
              clear HK2
              try simp only [Act.put, List.getElem_toArray, List.getElem_cons_succ, List.getElem_cons_zero, List.setIfInBounds_toArray, List.set_cons_zero, List.set_cons_succ]
              clear K
              refine wpAnyH_ready (rs := [6]) (by kernel_rfl) (by simp) ?_
              refine AllReadyH.cons rfl (fun K hK => ?_) AllReadyH.nil
              have HK2 := Lib.hid hK
              clear hK
              try rw [if_pos (by rfl)]
              go_simp
              refine HK2.out _ _ ((HS5.out _ (Nat.le_refl _) (by have := lt_of_block HN1.out; have := hb2x.size; simp; omega)).trans ((hb2x.alloc hb2x.size _).block _ (lt_of_block HN1.out) |>.trans HN1.out)) (fun hHeld => ?_)
              clear HK2
              try simp only [Act.put, List.getElem_toArray, List.getElem_cons_succ, List.getElem_cons_zero, List.setIfInBounds_toArray, List.set_cons_zero, List.set_cons_succ]
              clear K
              refine wpAnyH_ready (rs := [7]) (by kernel_rfl) (by simp) ?_
              refine AllReadyH.cons rfl (fun K hK => ?_) AllReadyH.nil
              have HK2 := Lib.hid hK
              clear hK
              try rw [if_pos (by rfl)]
              go_simp
              refine HK2.out _ _ ((Below.heap_setCell _ _ _ _ (by show wr.heap.size ≠ w.heap.size + 2; have := HL2.out; omega)).trans ((HS5.out _ (Nat.le_refl _) (by have := lt_of_block HN1.out; have := hb2x.size; simp; omega)).trans ((hb2x.alloc hb2x.size _).block _ (lt_of_block HN1.out) |>.trans HN1.out))) (fun hHeld => ?_)
              clear HK2
              try simp only [Act.put, List.getElem_toArray, List.getElem_cons_succ, List.getElem_cons_zero, List.setIfInBounds_toArray, List.set_cons_zero, List.set_cons_succ]
              clear K
              refine wpAnyH_done (by kernel_rfl) ?_ _
              clear hHeld
              go_wp2_with (fail)
              go_roundw
              case rel => first | exact ⟨j + 1, some ⟨gg, 0, none⟩, cap, by omega, by go_num, Lib.hid (by rw [HTK.out]; exact HS2.out)⟩ | exact ⟨j + 1, by omega, by go_num, some ⟨gg, 0, none⟩, cap, Lib.hid (by rw [HTK.out]; exact HS2.out)⟩
              case measure => simp [intOf]; omega
        · obtain rfl : j = l := by omega
          have hk := List.take_of_length_le (l := t.ks) (i := j) (by rw [HT.out.len]; exact Nat.le_refl _)
          have HKK := Lib.hid hk
          have ha := HA.out
          obtain ⟨⟨o0, o1, o2, o3, o4, o5, o6, o7⟩, -⟩ := cells8t ha.out
          obtain ⟨⟨r0, r1, r2, r3, r4, r5, r6, r7⟩, g0, g1, g2, g3, g4, g5, g6, g7⟩ := cells8t ha.res
          clear hk ha
          go_wp2_with (fail)
          refine bodyPost_ret (v := .agg #[.int .u8 (bareH h).k, .int .u8 h.h.op, .int .i64 h.h.pl, .int .i64 h.h.n, .string h.h.name, .string h.h.arg, .string h.h.exn, .slice a j c0]) (by simp [results, Tryz.results13, go_sem, r0, r1, r2, r3, r4, r5, r6, r7]) rfl ?_
          have ha := HA.out
          rw [HKK.out] at ha
          rw [HER.out]
          exact erase_end HT.out.ok.hd ha (fun b hb => set8_other _ _ _ _ _ _ _ _ _ _ hb) (ha.below.trans ((set8_below _ _ _ _ _ _ _ _ (Nat.le_refl _)).mono (by omega)))
end Aterm
end Go.Proofs.YtolpdhkgkjnbfaaGreatDoor
namespace Go.Proofs.YtolpdhkgkjnbfaaGreatDoor
open Go.RowKit
set_option linter.unusedVariables false
set_option linter.unusedSimpArgs false
namespace Aterm
open Effect (RdI nget nget_at nget_mem ret_bool ret_i64 lt_of_block heap_alloc_new ofA)
open Rt (box_new box_at below_then)

def exH (k rho : Int) : Hd := ⟨⟨k, 0, 0, 0, ⟨#[]⟩, ⟨#[]⟩, ⟨#[]⟩⟩, rho, [], [], .node ⟨0, 0, []⟩ [], .node ⟨0, 0, []⟩ []⟩
def exV (p : Option Addr) (c : Nat) : V := ⟨none, 0, none, 0, none, 0, none, 0, none, 0, none, 0, p, c⟩
def exN : AT := .node (exH 1 0) []
def exP : AT := .node (exH 3 1) [exN, exN]
def exF : AT := .node (exH 4 0) [exP]
def exT : AT := .node (exH 17 1) [exF]
theorem wt_N : wt exN = 1 := by unfold exN; rw [wt_ks]; simp only [AT.ks]; rw [wts_nil]
theorem wt_P : wt exP = 3 := by unfold exP; rw [wt_ks]; simp only [AT.ks]; rw [wts_cons, wts_cons, wts_nil, wt_N]
theorem wt_F : wt exF = 4 := by unfold exF; rw [wt_ks]; simp only [AT.ks]; rw [wts_cons, wts_nil, wt_P]
theorem wt_T : wt exT = 5 := by unfold exT; rw [wt_ks]; simp only [AT.ks]; rw [wts_cons, wts_nil, wt_F]
theorem all_ex (B : Hd → Nat → Bool) (h1 : B (exH 1 0) 0 = true) (h2 : B (exH 3 1) 2 = true) (h3 : B (exH 4 0) 1 = true) (h4 : B (exH 17 1) 1 = true) : allT B exT = true := by
  have n : allT B exN = true := by unfold exN; rw [allT_eq]; simp only [AT.h, AT.ks, List.length_nil]; rw [h1, allK_nil]; rfl
  have p : allT B exP = true := by unfold exP; rw [allT_eq]; simp only [AT.h, AT.ks, List.length_cons, List.length_nil]; rw [show B (exH 3 1) (0 + 1 + 1) = true from h2, allK_cons, allK_cons, allK_nil, n]; rfl
  have f : allT B exF = true := by unfold exF; rw [allT_eq]; simp only [AT.h, AT.ks, List.length_cons, List.length_nil]; rw [show B (exH 4 0) (0 + 1) = true from h3, allK_cons, allK_nil, p]; rfl
  unfold exT; rw [allT_eq]; simp only [AT.h, AT.ks, List.length_cons, List.length_nil]; rw [show B (exH 17 1) (0 + 1) = true from h4, allK_cons, allK_nil, f]; rfl
theorem may_ex : mayT exT = true := by
  unfold mayT
  rw [wt_T, all_ex nodeB (by decide) (by decide) (by decide) (by decide)]
  rfl
theorem small_ex : allT smallB exT = true := all_ex smallB (by decide) (by decide) (by decide) (by decide)
def exE : Term.Tm := .node ⟨4, 0, 0, 0, ⟨#[]⟩, ⟨#[]⟩, ⟨#[]⟩⟩ [.node ⟨3, 0, 0, 0, ⟨#[]⟩, ⟨#[]⟩, ⟨#[]⟩⟩ [.node ⟨1, 0, 0, 0, ⟨#[]⟩, ⟨#[]⟩, ⟨#[]⟩⟩ [], .node ⟨1, 0, 0, 0, ⟨#[]⟩, ⟨#[]⟩, ⟨#[]⟩⟩ []]]
theorem erase_ex : eraseT exT = exE := by
  have n : eraseT exN = .node ⟨1, 0, 0, 0, ⟨#[]⟩, ⟨#[]⟩, ⟨#[]⟩⟩ [] := by unfold exN; rw [eraseT_no (by intro h; exact h.2 rfl)]; simp only [AT.h, AT.ks]; rw [eraseK_nil]; rfl
  have p : eraseT exP = .node ⟨3, 0, 0, 0, ⟨#[]⟩, ⟨#[]⟩, ⟨#[]⟩⟩ [.node ⟨1, 0, 0, 0, ⟨#[]⟩, ⟨#[]⟩, ⟨#[]⟩⟩ [], .node ⟨1, 0, 0, 0, ⟨#[]⟩, ⟨#[]⟩, ⟨#[]⟩⟩ []] := by
    unfold exP
    rw [eraseT_no (by intro h; exact absurd h.1 (by decide))]; simp only [AT.h, AT.ks]; rw [eraseK_cons, eraseK_cons, eraseK_nil, n]; rfl
  have f : eraseT exF = exE := by
    unfold exF
    rw [eraseT_no (by intro h; exact absurd h.1 (by decide))]; simp only [AT.h, AT.ks]; rw [eraseK_cons, eraseK_nil, p]; rfl
  rw [eraseT_reg (u := exF) (us := []) rfl rfl, f]
theorem ex_is {w : World} {k rho : Int} {p : Option Addr} {c : Nat} {ts : List AT} (hk : 0 ≤ k ∧ k ≤ 255) (hr : 0 ≤ rho ∧ rho ≤ 255) (hc : ts.length ≤ c ∧ c ≤ maxLen) (hks : Kids w p ts) : AtIs w (exH k rho) (exV p c) ts.length (.node (exH k rho) ts) :=
  ⟨rfl, rfl, ⟨⟨hk, by show (0 : Int) ≤ 0 ∧ (0 : Int) ≤ 255; omega, by show (-9223372036854775808 : Int) ≤ 0 ∧ (0 : Int) ≤ 9223372036854775807; omega, by show (-9223372036854775808 : Int) ≤ 0 ∧ (0 : Int) ≤ 9223372036854775807; omega, by show 0 ≤ maxLen; exact Nat.zero_le _, by show 0 ≤ maxLen; exact Nat.zero_le _, by show 0 ≤ maxLen; exact Nat.zero_le _⟩,
    by show -9223372036854775808 ≤ rho ∧ rho ≤ 9223372036854775807; omega, ⟨rfl, .inl rfl, fun x hx => by cases hx⟩, ⟨Nat.le_refl _, by show 0 ≤ maxLen; exact Nat.zero_le _⟩, zeroEff w, (fun x hx => by cases hx), zeroRt w, zeroRt w⟩, hc, hks⟩
/-- A term that is laid into a block that was made last, its number spelled otherwise. -/
theorem at_store2 {ops : Array Oper} {rest : List Oper} {op : Oper} {a : Act} {w0 : World} {Q : Exit → Act → World → Prop} (hgd : op.guard = none) (x y : Operand) (ho : op.op = .store 31 x y) (c : Array Value) (hc : c.size = 19)
    (h : Hd) (v : V) (l : Nat) (N : Nat) (hN : N = w0.heap.size) (hx : a.eval x = .pointer (some ⟨N, 0, none⟩)) (hy : a.eval y = .agg #[.int .u8 h.h.k, .int .u8 h.h.op, .int .i64 h.h.pl, .int .i64 h.h.n, .string h.h.name, .string h.h.arg, .string h.h.exn, .int .i64 h.rho, .slice v.ra h.rhos.length v.rc, .slice v.ea h.e.length v.ec, .int .u8 h.ty.h.k, .int .i64 h.ty.h.r, .slice v.tea h.ty.h.e.length v.tec, .slice v.tka h.ty.ks.length v.tkc, .int .u8 h.re.h.k, .int .i64 h.re.h.r, .slice v.sea h.re.h.e.length v.sec, .slice v.ska h.re.ks.length v.skc, .slice v.ka l v.kc])
    (k : wpList Tryz.prog ops Q rest (a.put op.dst undef) (w0.alloc (.cells #[.int .u8 h.h.k, .int .u8 h.h.op, .int .i64 h.h.pl, .int .i64 h.h.n, .string h.h.name, .string h.h.arg, .string h.h.exn, .int .i64 h.rho, .slice v.ra h.rhos.length v.rc, .slice v.ea h.e.length v.ec, .int .u8 h.ty.h.k, .int .i64 h.ty.h.r, .slice v.tea h.ty.h.e.length v.tec, .slice v.tka h.ty.ks.length v.tkc, .int .u8 h.re.h.k, .int .i64 h.re.h.r, .slice v.sea h.re.h.e.length v.sec, .slice v.ska h.re.ks.length v.skc, .slice v.ka l v.kc] 31))) : wpList Tryz.prog ops Q (op :: rest) a (w0.alloc (.cells c 31)) := by
  subst hN
  exact at_store hgd x y ho c hc h v l hx hy k
theorem of_world {P : Program} {c : Code} {Q : Exit → Act → World → Prop} {a : Act} {W : World} {F : World → Prop} (hf : F W) (h : ∀ W2, F W2 → Code.wp P c Q a W2) : Code.wp P c Q a W := h W hf
/-- Kids that are laid, one after the other. -/
theorem kids_laid {W : World} {g : Nat} {ts : List AT} (h : ∀ i, i < ts.length → ∃ v, AtIs W (tget ts i).h v (tget ts i).ks.length (tget ts i) ∧ W.rangeAt g (i * 19) (acells (tget ts i).h v (tget ts i).ks.length)) : Kids W (some ⟨g, 0, none⟩) ts := by
  have h' : ∀ i, ∃ v, i < ts.length → AtIs W (tget ts i).h v (tget ts i).ks.length (tget ts i) ∧ W.rangeAt g (i * 19) (acells (tget ts i).h v (tget ts i).ks.length) := fun i => by
    by_cases hi : i < ts.length
    · obtain ⟨v, hv⟩ := h i hi
      exact ⟨v, fun _ => hv⟩
    · exact ⟨v0, fun hn => absurd hn hi⟩
  obtain ⟨F, hF⟩ := Classical.axiomOfChoice h'
  refine .atkids g 0 ts F (fun i hi => (hF i hi).1.ok) (fun i hi j x hx => ?_) (fun i hi => (hF i hi).1.cap) (fun i hi => (hF i hi).1.kids)
  have := (hF i hi).2 j x hx
  rw [Nat.zero_add]; exact this
theorem kids_new {w : World} {t : AT} {h : Hd} {v : V} {l : Nat} (hT : AtIs w h v l t) {ty : TypeId} {N : Nat} (hN : N = w.heap.size) : Kids (w.alloc (.cells #[.int .u8 h.h.k, .int .u8 h.h.op, .int .i64 h.h.pl, .int .i64 h.h.n, .string h.h.name, .string h.h.arg, .string h.h.exn, .int .i64 h.rho, .slice v.ra h.rhos.length v.rc, .slice v.ea h.e.length v.ec, .int .u8 h.ty.h.k, .int .i64 h.ty.h.r, .slice v.tea h.ty.h.e.length v.tec, .slice v.tka h.ty.ks.length v.tkc, .int .u8 h.re.h.k, .int .i64 h.re.h.r, .slice v.sea h.re.h.e.length v.sec, .slice v.ska h.re.ks.length v.skc, .slice v.ka l v.kc] ty)) (some ⟨N, 0, none⟩) [t] := by
  have hT' := hT.below (box_new (w := w) (.cells #[.int .u8 h.h.k, .int .u8 h.h.op, .int .i64 h.h.pl, .int .i64 h.h.n, .string h.h.name, .string h.h.arg, .string h.h.exn, .int .i64 h.rho, .slice v.ra h.rhos.length v.rc, .slice v.ea h.e.length v.ec, .int .u8 h.ty.h.k, .int .i64 h.ty.h.r, .slice v.tea h.ty.h.e.length v.tec, .slice v.tka h.ty.ks.length v.tkc, .int .u8 h.re.h.k, .int .i64 h.re.h.r, .slice v.sea h.re.h.e.length v.sec, .slice v.ska h.re.ks.length v.skc, .slice v.ka l v.kc] ty))
  have hr := row_new (W := w) hN (h := h) (v := v) (l := l) (ty := ty)
  have e1 := hT.head
  have e2 := hT.len
  subst e1 e2
  refine kids_laid fun i hi => ?_
  have hi0 : i = 0 := by simp at hi; omega
  subst hi0
  exact ⟨v, hT', by rw [Nat.zero_mul]; exact hr⟩
theorem kids_twice {w : World} {ty : TypeId} {N : Nat} (hN : N = w.heap.size) : Kids (w.alloc (.cells #[.int .u8 1, .int .u8 0, .int .i64 0, .int .i64 0, .string ⟨#[]⟩, .string ⟨#[]⟩, .string ⟨#[]⟩, .int .i64 0, .slice none 0 0, .slice none 0 0, .int .u8 0, .int .i64 0, .slice none 0 0, .slice none 0 0, .int .u8 0, .int .i64 0, .slice none 0 0, .slice none 0 0, .slice none 0 0, .int .u8 1, .int .u8 0, .int .i64 0, .int .i64 0, .string ⟨#[]⟩, .string ⟨#[]⟩, .string ⟨#[]⟩, .int .i64 0, .slice none 0 0, .slice none 0 0, .int .u8 0, .int .i64 0, .slice none 0 0, .slice none 0 0, .int .u8 0, .int .i64 0, .slice none 0 0, .slice none 0 0, .slice none 0 0] ty)) (some ⟨N, 0, none⟩) [exN, exN] := by
  subst hN
  refine kids_laid fun i hi => ?_
  have hg : tget [exN, exN] i = exN := by
    have : i = 0 ∨ i = 1 := by simp at hi; omega
    rcases this with rfl | rfl <;> rfl
  rw [hg]
  refine ⟨exV none 0, ex_is (ts := []) (by decide) (by decide) ⟨Nat.le_refl _, Nat.zero_le _⟩ (.nokids _), ?_⟩
  intro j x hx
  have hj : j < 19 := by
    rcases Nat.lt_or_ge j 19 with h | h
    · exact h
    · rw [List.getElem?_eq_none (by simpa [acells] using h)] at hx; cases hx
  rw [World.cell?_alloc_mark, ← hx]
  have : i = 0 ∨ i = 1 := by simp at hi; omega
  rcases this with rfl | rfl
  all_goals
    have hj' : j = 0 ∨ j = 1 ∨ j = 2 ∨ j = 3 ∨ j = 4 ∨ j = 5 ∨ j = 6 ∨ j = 7 ∨ j = 8 ∨ j = 9 ∨ j = 10 ∨ j = 11 ∨ j = 12 ∨ j = 13 ∨ j = 14 ∨ j = 15 ∨ j = 16 ∨ j = 17 ∨ j = 18 := by omega
    rcases hj' with rfl | rfl | rfl | rfl | rfl | rfl | rfl | rfl | rfl | rfl | rfl | rfl | rfl | rfl | rfl | rfl | rfl | rfl | rfl <;> rfl
end Aterm
end Go.Proofs.YtolpdhkgkjnbfaaGreatDoor
