import Derived.Test.YtkfkpjngiffamaaGreatDoorGC23
import Derived.Test.YtkfkpjngiffamaaGreatDoorGC13
import Derived.Test.YtkfkpjngiffamaaGreatDoorGC16
import Derived.Laws.CopyOwn
import Derived.Deep.RegionHeld3
import Derived.Test.YtkfkpjngiffamaaGreatDoorGC02
import Derived.Test.YtkfkpjngiffamaaGreatDoorGC15
import Derived.Test.YtkfkpjngiffamaaGreatDoorGC09
namespace Go.Proofs.YtkfkpjngiffamaaGreatDoor
open Go.RowKit
set_option linter.unusedVariables false
set_option linter.unusedSimpArgs false
namespace Disp
open Aterm
open Effect (lt_of_block heap_alloc_new)
open Rt (box_new box_at below_then)
open Types (Reads veil veil_to veil_at veil_own veil_seen)

theorem place_start {L : Nat} {w W : World} {h : Hd} {v : V} {l g : Nat} (hL : L ≤ w.heap.size) (hb : Below w.heap.size w W) (h0 : W.heap[w.heap.size]? = some (.cells #[.int .u8 h.h.k, .int .u8 h.h.op, .int .i64 h.h.pl, .int .i64 h.h.n, .string h.h.name, .string h.h.arg, .string h.h.exn, .int .i64 h.rho, .slice v.ra h.rhos.length v.rc, .slice v.ea h.e.length v.ec, .int .u8 h.ty.h.k, .int .i64 h.ty.h.r, .slice v.tea h.ty.h.e.length v.tec, .slice v.tka h.ty.ks.length v.tkc, .int .u8 h.re.h.k, .int .i64 h.re.h.r, .slice v.sea h.re.h.e.length v.sec, .slice v.ska h.re.ks.length v.skc, .slice v.ka l v.kc] 31 (0, 0)))
  (h1 : W.heap[w.heap.size + 1]? = some (.cells #[.int .u8 0, .int .u8 0, .int .i64 0, .int .i64 0, .string ⟨#[]⟩, .string ⟨#[]⟩, .string ⟨#[]⟩, .int .i64 0, .slice none 0 0, .slice none 0 0, .int .u8 0, .int .i64 0, .slice none 0 0, .slice none 0 0, .int .u8 0, .int .i64 0, .slice none 0 0, .slice none 0 0, .slice none 0 0] 31 (0, 0))) (h2 : W.heap[w.heap.size + 2]? = some (.cells #[.int .u8 h.h.k, .int .u8 h.h.op, .int .i64 0, .int .i64 h.h.n, .string h.h.name, .string h.h.arg, .string h.h.exn, .int .i64 h.rho, .slice v.ra h.rhos.length v.rc, .slice v.ea h.e.length v.ec, .int .u8 h.ty.h.k, .int .i64 h.ty.h.r, .slice v.tea h.ty.h.e.length v.tec, .slice v.tka h.ty.ks.length v.tkc, .int .u8 h.re.h.k, .int .i64 h.re.h.r, .slice v.sea h.re.h.e.length v.sec, .slice v.ska h.re.ks.length v.skc, .slice (some ⟨g, 0, none⟩) 0 0] 31 (0, 0)))
  (h3 : W.heap[g]? = some (.cells #[] 31 (0, 0))) (hg : w.heap.size + 3 ≤ g) : PlaceAt L w h v l [] 0 (some ⟨g, 0, none⟩) 0 W :=
 ⟨hb, h0, h1, h2, ⟨[], ⟨rfl, .inr ⟨g, 0, #[], rfl, hg, h3, Nat.le_refl _, by unfold maxLen; omega, rfl, rfl⟩⟩, rfl⟩, rfl, hL⟩
set_option maxRecDepth 100000 in
set_option maxHeartbeats 12800000 in
theorem placed_walk : ∀ (m : Nat) (t : AT) (h : Hd) (v : V) (l : Nat) (w0 w : World), wt t ≤ m → wt t ≤ 100000 → AtIs w0 h v l t → Below w0.heap.size w0 w → Calls Tryz.prog 15 #[.agg #[.int .u8 h.h.k, .int .u8 h.h.op, .int .i64 h.h.pl, .int .i64 h.h.n, .string h.h.name, .string h.h.arg, .string h.h.exn, .int .i64 h.rho, .slice v.ra h.rhos.length v.rc, .slice v.ea h.e.length v.ec, .int .u8 h.ty.h.k, .int .i64 h.ty.h.r, .slice v.tea h.ty.h.e.length v.tec, .slice v.tka h.ty.ks.length v.tkc, .int .u8 h.re.h.k, .int .i64 h.re.h.r, .slice v.sea h.re.h.e.length v.sec, .slice v.ska h.re.ks.length v.skc, .slice v.ka l v.kc]] w (PlaceEnd w0.heap.size (zeroT t) w) := by
 intro m
 induction m with
 | zero => intro t h v l w0 w hm; have := wt_pos t; omega
 | succ m ih =>
  intro t h v l w0 w hm hmm hT hb00
  have hwt := wt_ks t
  have hll : l ≤ 100000 := by have := wts_len t.ks; rw [hT.len] at this; omega
  have her : zeroT t = .node (zeroH h) (zeroK t.ks) := by rw [zeroT_eq, hT.head]
  obtain ⟨i0, hi0, hz0, hz1, hz2⟩ := info_parts infoAt
  have HI0 := Lib.hid hi0; have HZ0 := Lib.hid hz0; have HZ1 := Lib.hid hz1; have HZ2 := Lib.hid hz2
  have HER := Lib.hid her; have IH := Lib.hid ih; have HT := Lib.hid hT; have HM := Lib.hid (And.intro hm hmm); have HWT := Lib.hid hwt; have HB00 := Lib.hid hb00; have HL := Lib.hid hb00.size
  clear her ih hT hm hmm hwt hb00 hi0 hz0 hz1 hz2
  go_enter Tryz.func15, Tryz.ntmps15
  go_upto_region 1 with (fail)
  refine of_world (F := fun V => Below w.heap.size w V ∧ V.heap.size = w.heap.size + 2 ∧ V.heap[w.heap.size]? = some (.cells #[.int .u8 h.h.k, .int .u8 h.h.op, .int .i64 h.h.pl, .int .i64 h.h.n, .string h.h.name, .string h.h.arg, .string h.h.exn, .int .i64 h.rho, .slice v.ra h.rhos.length v.rc, .slice v.ea h.e.length v.ec, .int .u8 h.ty.h.k, .int .i64 h.ty.h.r, .slice v.tea h.ty.h.e.length v.tec, .slice v.tka h.ty.ks.length v.tkc, .int .u8 h.re.h.k, .int .i64 h.re.h.r, .slice v.sea h.re.h.e.length v.sec, .slice v.ska h.re.ks.length v.skc, .slice v.ka l v.kc] 31 (0, 0)) ∧ V.heap[w.heap.size + 1]? = some (.cells #[.int .u8 0, .int .u8 0, .int .i64 0, .int .i64 0, .string ⟨#[]⟩, .string ⟨#[]⟩, .string ⟨#[]⟩, .int .i64 0, .slice none 0 0, .slice none 0 0, .int .u8 0, .int .i64 0, .slice none 0 0, .slice none 0 0, .int .u8 0, .int .i64 0, .slice none 0 0, .slice none 0 0, .slice none 0 0] 31 (0, 0))) ⟨(box_new _).trans ((box_new _).mono (by simp)), by simp, ((box_new _).block _ (by simp)).trans (heap_alloc_new _ _), by have := heap_alloc_new (w.alloc (.cells #[.int .u8 h.h.k, .int .u8 h.h.op, .int .i64 h.h.pl, .int .i64 h.h.n, .string h.h.name, .string h.h.arg, .string h.h.exn, .int .i64 h.rho, .slice v.ra h.rhos.length v.rc, .slice v.ea h.e.length v.ec, .int .u8 h.ty.h.k, .int .i64 h.ty.h.r, .slice v.tea h.ty.h.e.length v.tec, .slice v.tka h.ty.ks.length v.tkc, .int .u8 h.re.h.k, .int .i64 h.re.h.r, .slice v.sea h.re.h.e.length v.sec, .slice v.ska h.re.ks.length v.skc, .slice v.ka l v.kc] 31)) (.cells #[.int .u8 0, .int .u8 0, .int .i64 0, .int .i64 0, .string ⟨#[]⟩, .string ⟨#[]⟩, .string ⟨#[]⟩, .int .i64 0, .slice none 0 0, .slice none 0 0, .int .u8 0, .int .i64 0, .slice none 0 0, .slice none 0 0, .int .u8 0, .int .i64 0, .slice none 0 0, .slice none 0 0, .slice none 0 0] 31); rw [World.size_alloc] at this; exact this⟩ ?_
  rintro W0 ⟨hb0, hsz, hbk, hrs⟩
  have HRG0 := Lib.hid (box_blk hbk).range
  have HZ := Lib.hid hsz
  have HF := Lib.hid (And.intro hb0 (And.intro hbk hrs))
  clear hb0 hsz hbk hrs
  generalize hN : w.heap.size = N0 at HRG0 ⊢
  have HN := Lib.hid hN
  clear hN
  go_upto_region 2 with (first | refine at_load rfl _ rfl N0 0 rfl HRG0.out ?_ | refine Aterm.at_store rfl _ _ rfl _ rfl h v l rfl rfl ?_)
  have hN := HN.out
  subst hN
  rw [HZ.out]
  refine of_world (F := fun V => Below w.heap.size w V ∧ V.heap.size = w.heap.size + 3 ∧ V.heap[w.heap.size]? = some (.cells #[.int .u8 h.h.k, .int .u8 h.h.op, .int .i64 h.h.pl, .int .i64 h.h.n, .string h.h.name, .string h.h.arg, .string h.h.exn, .int .i64 h.rho, .slice v.ra h.rhos.length v.rc, .slice v.ea h.e.length v.ec, .int .u8 h.ty.h.k, .int .i64 h.ty.h.r, .slice v.tea h.ty.h.e.length v.tec, .slice v.tka h.ty.ks.length v.tkc, .int .u8 h.re.h.k, .int .i64 h.re.h.r, .slice v.sea h.re.h.e.length v.sec, .slice v.ska h.re.ks.length v.skc, .slice v.ka l v.kc] 31 (0, 0)) ∧ V.heap[w.heap.size + 1]? = some (.cells #[.int .u8 0, .int .u8 0, .int .i64 0, .int .i64 0, .string ⟨#[]⟩, .string ⟨#[]⟩, .string ⟨#[]⟩, .int .i64 0, .slice none 0 0, .slice none 0 0, .int .u8 0, .int .i64 0, .slice none 0 0, .slice none 0 0, .int .u8 0, .int .i64 0, .slice none 0 0, .slice none 0 0, .slice none 0 0] 31 (0, 0)) ∧ V.heap[w.heap.size + 2]? = some (.cells #[.int .u8 h.h.k, .int .u8 h.h.op, .int .i64 h.h.pl, .int .i64 h.h.n, .string h.h.name, .string h.h.arg, .string h.h.exn, .int .i64 h.rho, .slice v.ra h.rhos.length v.rc, .slice v.ea h.e.length v.ec, .int .u8 h.ty.h.k, .int .i64 h.ty.h.r, .slice v.tea h.ty.h.e.length v.tec, .slice v.tka h.ty.ks.length v.tkc, .int .u8 h.re.h.k, .int .i64 h.re.h.r, .slice v.sea h.re.h.e.length v.sec, .slice v.ska h.re.ks.length v.skc, .slice v.ka l v.kc] 31 (0, 0))) ⟨below_then HF.out.1 (box_new _) HF.out.1.size, by rw [World.size_alloc, HZ.out], ((box_new _).block _ (by have := HZ.out; omega)).trans HF.out.2.1, ((box_new _).block _ (by have := HZ.out; omega)).trans HF.out.2.2, by have := heap_alloc_new W0 (.cells #[.int .u8 h.h.k, .int .u8 h.h.op, .int .i64 h.h.pl, .int .i64 h.h.n, .string h.h.name, .string h.h.arg, .string h.h.exn, .int .i64 h.rho, .slice v.ra h.rhos.length v.rc, .slice v.ea h.e.length v.ec, .int .u8 h.ty.h.k, .int .i64 h.ty.h.r, .slice v.tea h.ty.h.e.length v.tec, .slice v.tka h.ty.ks.length v.tkc, .int .u8 h.re.h.k, .int .i64 h.re.h.r, .slice v.sea h.re.h.e.length v.sec, .slice v.ska h.re.ks.length v.skc, .slice v.ka l v.kc] 31); rw [HZ.out] at this; exact this⟩ ?_
  rintro W1 ⟨hb1, hsz1, hk1, hr1, ho1⟩
  have c2 : W1.cell? ⟨w.heap.size + 2, 2, none⟩ = some (.int .i64 h.h.pl) := by simp [World.cell?, ho1]
  have f2 : W1.frozen? ⟨w.heap.size + 2, 2, none⟩ = false := by simp [World.frozen?, ho1]
  have HF1 := Lib.hid (And.intro hb1 (And.intro hsz1 (And.intro hk1 (And.intro hr1 ho1))))
  clear hb1 hsz1 hk1 hr1 ho1 HRG0
  go_upto_region 3 with (fail)
  clear c2 f2
  refine of_world (F := fun V => Below w.heap.size w V ∧ V.heap.size = w.heap.size + 3 ∧ V.heap[w.heap.size]? = some (.cells #[.int .u8 h.h.k, .int .u8 h.h.op, .int .i64 h.h.pl, .int .i64 h.h.n, .string h.h.name, .string h.h.arg, .string h.h.exn, .int .i64 h.rho, .slice v.ra h.rhos.length v.rc, .slice v.ea h.e.length v.ec, .int .u8 h.ty.h.k, .int .i64 h.ty.h.r, .slice v.tea h.ty.h.e.length v.tec, .slice v.tka h.ty.ks.length v.tkc, .int .u8 h.re.h.k, .int .i64 h.re.h.r, .slice v.sea h.re.h.e.length v.sec, .slice v.ska h.re.ks.length v.skc, .slice v.ka l v.kc] 31 (0, 0)) ∧ V.heap[w.heap.size + 1]? = some (.cells #[.int .u8 0, .int .u8 0, .int .i64 0, .int .i64 0, .string ⟨#[]⟩, .string ⟨#[]⟩, .string ⟨#[]⟩, .int .i64 0, .slice none 0 0, .slice none 0 0, .int .u8 0, .int .i64 0, .slice none 0 0, .slice none 0 0, .int .u8 0, .int .i64 0, .slice none 0 0, .slice none 0 0, .slice none 0 0] 31 (0, 0)) ∧ V.heap[w.heap.size + 2]? = some (.cells #[.int .u8 h.h.k, .int .u8 h.h.op, .int .i64 0, .int .i64 h.h.n, .string h.h.name, .string h.h.arg, .string h.h.exn, .int .i64 h.rho, .slice v.ra h.rhos.length v.rc, .slice v.ea h.e.length v.ec, .int .u8 h.ty.h.k, .int .i64 h.ty.h.r, .slice v.tea h.ty.h.e.length v.tec, .slice v.tka h.ty.ks.length v.tkc, .int .u8 h.re.h.k, .int .i64 h.re.h.r, .slice v.sea h.re.h.e.length v.sec, .slice v.ska h.re.ks.length v.skc, .slice v.ka l v.kc] 31 (0, 0))) ⟨HF1.out.1.setCell (p := ⟨w.heap.size + 2, 2, none⟩) (by show w.heap.size ≤ w.heap.size + 2; omega) _, by rw [World.size_setCell]; exact HF1.out.2.1, (Below.heap_setCell _ _ _ _ (by show w.heap.size ≠ w.heap.size + 2; omega)).trans HF1.out.2.2.1, (Below.heap_setCell _ _ _ _ (by show w.heap.size + 1 ≠ w.heap.size + 2; omega)).trans HF1.out.2.2.2.1, by have := HF1.out.2.2.2.2; simp [World.setCell, Array.getElem?_modify, this]⟩ ?_
  rintro W2 ⟨hb1, hsz1, hk1, hr1, ho1⟩
  have c18 : W2.cell? ⟨w.heap.size + 2, 18, none⟩ = some (.slice v.ka l v.kc) := by simp [World.cell?, ho1]
  have f18 : W2.frozen? ⟨w.heap.size + 2, 18, none⟩ = false := by simp [World.frozen?, ho1]
  have hlt2 : w.heap.size + 2 < W2.heap.size := by omega
  have HF2 := Lib.hid (And.intro hb1 (And.intro hsz1 (And.intro hk1 (And.intro hr1 ho1))))
  clear hb1 hsz1 hk1 hr1 ho1 HF1
  go_upto_region 4 with (fail)
  clear c18 f18 hlt2
  rw [HF2.out.2.1]
  refine of_world (F := fun V => PlaceAt w0.heap.size w h v l [] 0 (some ⟨w.heap.size + 3, 0, none⟩) 0 V) (place_start (g := w.heap.size + 3) HL.out ?_ ?_ ?_ ?_ ?_ (Nat.le_refl _)) ?_
  ·exact below_then (HF2.out.1.setCell (p := ⟨w.heap.size + 2, 18, none⟩) (by show w.heap.size ≤ w.heap.size + 2; omega) _) (box_new _) (by rw [World.size_setCell]; exact HF2.out.1.size)
  ·exact ((box_new _).block _ (by rw [World.size_setCell, HF2.out.2.1]; omega)).trans ((Below.heap_setCell _ _ _ _ (by show w.heap.size ≠ w.heap.size + 2; omega)).trans HF2.out.2.2.1)
  ·exact ((box_new _).block _ (by rw [World.size_setCell, HF2.out.2.1]; omega)).trans ((Below.heap_setCell _ _ _ _ (by show w.heap.size + 1 ≠ w.heap.size + 2; omega)).trans HF2.out.2.2.2.1)
  ·refine ((box_new _).block _ (by rw [World.size_setCell, HF2.out.2.1]; omega)).trans ?_
   have := HF2.out.2.2.2.2
   simp [World.setCell, Array.getElem?_modify, this]
  ·have := heap_alloc_new (W2.setCell ⟨w.heap.size + 2, 18, none⟩ (.slice (some ⟨w.heap.size + 3, 0, none⟩) 0 0)) (.cells #[] 31)
   rw [World.size_setCell, HF2.out.2.1] at this
   exact this
  intro W3 hst
  have HST := Lib.hid hst
  clear hst HF2
  go_wp2_with (fail)
  go_loopw [4] (fun i wr => ∃ (j : Nat) (a : Option Addr) (c0 : Nat), j ≤ l ∧ i = .int .i64 j ∧ Hid (PlaceAt w0.heap.size w h v l (zeroK (t.ks.take j)) j a c0 wr)) (fun i _ => l - (intOf i).toNat)
  case atStart => exact ⟨0, _, 0, Nat.zero_le _, rfl, Lib.hid (by rw [List.take_zero]; exact HST.out)⟩
  case round =>
   obtain ⟨j, a, c0, hj, rfl, HA⟩ := hrel
   have hbx := box_blk HA.out.box
   obtain ⟨b0, b1, b2, b3, b4, b5, b6, b7, b8, b9, b10, b11, b12, b13, b14, b15, b16, b17, b18⟩ := hbx
   clear b0 b1 b2 b3 b4 b5 b6 b7 b8 b9 b10 b11 b12 b13 b14 b15 b16 b17
   by_cases hlt : j < l
   ·have hjk : j < t.ks.length := by rw [HT.out.len]; exact hlt
    obtain ⟨bb, o, v2, hp, hkid0, hrg0⟩ := HT.out.kids.load j hjk
    have hrg := range_below hrg0 HB00.out
    have hwk := wts_get hjk
    have htk : zeroK (t.ks.take (j + 1)) = zeroK (t.ks.take j) ++ [zeroT (tget t.ks j)] := by rw [take_tget t.ks j hjk, zeroK_map, zeroK_map, List.map_append]; rfl
    have hm1 : wt (tget t.ks j) ≤ m := by have := HM.out.1; have := HWT.out; omega
    have hm2 : wt (tget t.ks j) ≤ 100000 := by have := HM.out.2; have := HWT.out; omega
    have hl2 := lt_of_block HA.out.out
    have hout := HA.out.out
    have o7 : wr.cell? ⟨w.heap.size + 2, 18, none⟩ = some (.slice a j c0) := by simp [World.cell?, hout]
    have hrow := HA.out.row
    have j0 : (0 : Int) ≤ (j : Int) := by omega
    have j1 : (j : Int) < (l : Int) := by omega
    have HL2 := Lib.hid hl2; have HOUT := Lib.hid hout; have HROW := Lib.hid hrow
    clear hl2 hout hrow hwk hrg0
    have HRG := Lib.hid hrg
    obtain ⟨u, hu⟩ : ∃ u, u = zeroT (tget t.ks j) := ⟨_, rfl⟩
    rw [← hu] at htk
    have HTK := Lib.hid htk; have HU := Lib.hid hu
    clear hrg htk hu hjk
    go_upto_region 7 with (fail)
    have hn1 := HA.out.box
    have hbw := Below.refl wr.heap.size wr
    have q7 := o7
    have hcall := IH.out (tget t.ks j) (tget t.ks j).h v2 (tget t.ks j).ks.length w0 wr.drew hm1 hm2 hkid0 (below_then HB00.out HA.out.below HB00.out.size |>.drew)
    rw [← HU.out] at hcall
    have HCALL := Lib.hid hcall; have HBW := Lib.hid hbw; have HN1 := Lib.hid hn1; have HQ7 := Lib.hid q7
    clear hcall o7 hbw hkid0
    refine wp_region_held_drew (S := fun (V : World) => Below w.heap.size w V ∧ V.heap[w.heap.size]? = some (.cells #[.int .u8 h.h.k, .int .u8 h.h.op, .int .i64 h.h.pl, .int .i64 h.h.n, .string h.h.name, .string h.h.arg, .string h.h.exn, .int .i64 h.rho, .slice v.ra h.rhos.length v.rc, .slice v.ea h.e.length v.ec, .int .u8 h.ty.h.k, .int .i64 h.ty.h.r, .slice v.tea h.ty.h.e.length v.tec, .slice v.tka h.ty.ks.length v.tkc, .int .u8 h.re.h.k, .int .i64 h.re.h.r, .slice v.sea h.re.h.e.length v.sec, .slice v.ska h.re.ks.length v.skc, .slice v.ka l v.kc] 31 (0, 0))) (by kernel_rfl) ⟨HA.out.below.drew, HN1.out⟩ (fun hHeld => ?_)
    refine wpAnyH_take (i := 0) (v := .pointer (some ⟨w.heap.size + 2, 18, none⟩)) rfl (by kernel_rfl) (by kernel_rfl) (by kernel_rfl) (fun _ _ _ h => h) (Or.inl ⟨by rfl, ?_⟩) (by assumption) ?_
    ·intro w' hSw
     first | (go_simp; done) | (go_simp; intro h0; omega) | rfl
    try simp only [Act.put, List.getElem_toArray, List.getElem_cons_succ, List.getElem_cons_zero, List.setIfInBounds_toArray, List.set_cons_zero, List.set_cons_succ]
    refine wpAnyH_take (i := 2) (v := .pointer (some ⟨w.heap.size, 18, none⟩)) rfl (by kernel_rfl) (by kernel_rfl) (by kernel_rfl) (fun _ _ _ h => h) (Or.inl ⟨by rfl, ?_⟩) (by assumption) ?_
    ·intro w' hSw
     first | (go_simp; done) | (go_simp; intro h0; omega) | rfl
    try simp only [Act.put, List.getElem_toArray, List.getElem_cons_succ, List.getElem_cons_zero, List.setIfInBounds_toArray, List.set_cons_zero, List.set_cons_succ]
    refine wpAnyH_take (i := 3) (v := .slice (some ⟨bb, o, none⟩) l v.kc) rfl (by kernel_rfl) (by kernel_rfl) (by kernel_rfl) (fun _ _ _ h => h) (Or.inl ⟨by rfl, ?_⟩) (by assumption) ?_
    ·intro w' hSw
     obtain ⟨b0, b1, b2, b3, b4, b5, b6, b7, b8, b9, b10, b11, b12, b13, b14, b15, b16, b17, b18⟩ := box_blk hSw.2
     rw [hp] at b18
     first | (go_simp; done) | rfl
    try simp only [Act.put, List.getElem_toArray, List.getElem_cons_succ, List.getElem_cons_zero, List.setIfInBounds_toArray, List.set_cons_zero, List.set_cons_succ]
    refine wpAnyH_take (i := 4) (v := .int .i64 j) rfl (by kernel_rfl) (by kernel_rfl) (by kernel_rfl) (fun _ _ _ h => h) (Or.inl ⟨by rfl, ?_⟩) (by assumption) ?_
    ·intro w' hSw
     first | (go_simp; done) | (go_simp; intro h0; omega) | rfl
    try simp only [Act.put, List.getElem_toArray, List.getElem_cons_succ, List.getElem_cons_zero, List.setIfInBounds_toArray, List.set_cons_zero, List.set_cons_succ]
    refine wpAnyH_take (i := 5) (v := .pointer (some ⟨bb, o + j * 19, none⟩)) rfl (by kernel_rfl) (by kernel_rfl) (by kernel_rfl) (fun _ _ _ h => h) (Or.inl ⟨by rfl, ?_⟩) (by assumption) ?_
    ·intro w' hSw
     first | (go_simp; done) | (go_simp; intro h0; omega) | rfl
    try simp only [Act.put, List.getElem_toArray, List.getElem_cons_succ, List.getElem_cons_zero, List.setIfInBounds_toArray, List.set_cons_zero, List.set_cons_succ]
    refine wpAnyH_take (i := 6) (v := .agg #[.int .u8 (tget t.ks j).h.h.k, .int .u8 (tget t.ks j).h.h.op, .int .i64 (tget t.ks j).h.h.pl, .int .i64 (tget t.ks j).h.h.n, .string (tget t.ks j).h.h.name, .string (tget t.ks j).h.h.arg, .string (tget t.ks j).h.h.exn, .int .i64 (tget t.ks j).h.rho, .slice v2.ra (tget t.ks j).h.rhos.length v2.rc, .slice v2.ea (tget t.ks j).h.e.length v2.ec, .int .u8 (tget t.ks j).h.ty.h.k, .int .i64 (tget t.ks j).h.ty.h.r, .slice v2.tea (tget t.ks j).h.ty.h.e.length v2.tec, .slice v2.tka (tget t.ks j).h.ty.ks.length v2.tkc, .int .u8 (tget t.ks j).h.re.h.k, .int .i64 (tget t.ks j).h.re.h.r, .slice v2.sea (tget t.ks j).h.re.h.e.length v2.sec, .slice v2.ska (tget t.ks j).h.re.ks.length v2.skc, .slice v2.ka (tget t.ks j).ks.length v2.kc]) rfl (by kernel_rfl) (by kernel_rfl) (by kernel_rfl) (fun _ _ _ h => h) (Or.inl ⟨by rfl, ?_⟩) (by assumption) ?_
    ·intro w' hSw
     exact exec_at _ rfl bb (o + j * 19) rfl (range_below HRG.out hSw.1)
    try simp only [Act.put, List.getElem_toArray, List.getElem_cons_succ, List.getElem_cons_zero, List.setIfInBounds_toArray, List.set_cons_zero, List.set_cons_succ]
    refine wpAnyH_ready (rs := [1, 7]) (by kernel_rfl) (by simp) ?_
    refine AllReadyH.cons rfl (fun K hK => ?_) (AllReadyH.cons rfl (fun K hK => ?_) AllReadyH.nil)
    ·have HK2 := Lib.hid hK
     clear hK
     try rw [if_pos (by rfl)]
     go_simp
     refine HK2.out _ _ ⟨HA.out.below.drew, HN1.out⟩ (fun hHeld => ?_)
     clear HK2
     try simp only [Act.put, List.getElem_toArray, List.getElem_cons_succ, List.getElem_cons_zero, List.setIfInBounds_toArray, List.set_cons_zero, List.set_cons_succ]
     clear K
     refine wpAnyH_ready (rs := [7]) (by kernel_rfl) (by simp) ?_
     refine AllReadyH.cons rfl (fun K hK => ?_) AllReadyH.nil
     have HK2 := Lib.hid hK
     clear hK
     try rw [if_pos (by rfl)]
     go_simp
     refine HCALL.out.mono ?_
     rintro en w2 ⟨q2, rfl, hT2, hb2d⟩
     have hb2x := undrew' hb2d
     have hb2 : Below wr.heap.size wr w2 := below_then HBW.out hb2x HBW.out.size
     have hm2' : wr.heap.size ≤ wr.drew.heap.size := HBW.out.size
     have HT2 := Lib.hid hT2; have HB2 := Lib.hid hb2; have HM2 := Lib.hid hm2'
     clear hT2 hb2d hm2'
     refine HK2.out _ _ ⟨below_then HA.out.below HB2.out HA.out.below.size, (HB2.out.block _ (lt_of_block HN1.out)).trans HN1.out⟩ (fun hHeld => ?_)
     clear HK2
     try simp only [Act.put, List.getElem_toArray, List.getElem_cons_succ, List.getElem_cons_zero, List.setIfInBounds_toArray, List.set_cons_zero, List.set_cons_succ]
     clear K
     refine wpAnyH_ready (rs := [8]) (by kernel_rfl) (by simp) ?_
     refine AllReadyH.cons rfl (fun K hK => ?_) AllReadyH.nil
     have HK2 := Lib.hid hK
     clear hK
     have hz2 : w2.heap.size = w2.heap.size := rfl
     try rw [if_pos (by rfl)]
     go_simp
     refine HK2.out _ _ ⟨below_then HA.out.below (HB2.out.alloc HB2.out.size _) HA.out.below.size, ((HB2.out.alloc HB2.out.size _).block _ (lt_of_block HN1.out)).trans HN1.out⟩ (fun hHeld => ?_)
     clear HK2
     try simp only [Act.put, List.getElem_toArray, List.getElem_cons_succ, List.getElem_cons_zero, List.setIfInBounds_toArray, List.set_cons_zero, List.set_cons_succ]
     clear K
     refine wpAnyH_ready (rs := [9]) (by kernel_rfl) (by simp) ?_
     refine AllReadyH.cons rfl (fun K hK => ?_) AllReadyH.nil
     have HK2 := Lib.hid hK
     clear hK
     obtain ⟨xs, hown, hflat⟩ := HROW.out
     have hown' : wr.ownsRow (w.heap.size + 3) 31 19 (.slice a j c0) j xs := by rw [HA.out.len] at hown; exact hown
     have hr1 : (w2.alloc (.cells #[.int .u8 u.h.h.k, .int .u8 u.h.h.op, .int .i64 u.h.h.pl, .int .i64 u.h.h.n, .string u.h.h.name, .string u.h.h.arg, .string u.h.h.exn, .int .i64 u.h.rho, .slice q2.ra u.h.rhos.length q2.rc, .slice q2.ea u.h.e.length q2.ec, .int .u8 u.h.ty.h.k, .int .i64 u.h.ty.h.r, .slice q2.tea u.h.ty.h.e.length q2.tec, .slice q2.tka u.h.ty.ks.length q2.tkc, .int .u8 u.h.re.h.k, .int .i64 u.h.re.h.r, .slice q2.sea u.h.re.h.e.length q2.sec, .slice q2.ska u.h.re.ks.length q2.skc, .slice q2.ka u.ks.length q2.kc] 31)).ownsRow (w.heap.size + 3) 31 19 (.slice a j c0) j xs := Aterm.own_below hown' (HB2.out.alloc HB2.out.size _)
     have hr2 : Aterm.Flat (veil (seenA w0.heap.size (w.heap.size + 3) (.slice a j c0)) (w2.alloc (.cells #[.int .u8 u.h.h.k, .int .u8 u.h.h.op, .int .i64 u.h.h.pl, .int .i64 u.h.h.n, .string u.h.h.name, .string u.h.h.arg, .string u.h.h.exn, .int .i64 u.h.rho, .slice q2.ra u.h.rhos.length q2.rc, .slice q2.ea u.h.e.length q2.ec, .int .u8 u.h.ty.h.k, .int .i64 u.h.ty.h.r, .slice q2.tea u.h.ty.h.e.length q2.tec, .slice q2.tka u.h.ty.ks.length q2.tkc, .int .u8 u.h.re.h.k, .int .i64 u.h.re.h.r, .slice q2.sea u.h.re.h.e.length q2.sec, .slice q2.ska u.h.re.ks.length q2.skc, .slice q2.ka u.ks.length q2.kc] 31))) xs (zeroK (t.ks.take j)) := flat_reads (veil_to fun b hbl hp => ⟨hp, (HB2.out.alloc HB2.out.size _).block b hbl⟩) hflat
     refine step_append_lies _ (by rfl) _ _ _ (by rfl) (w.heap.size + 3) 31 i0 _ 19 280 Tryz.underlying29 HI0.out HZ0.out HZ1.out HZ2.out rfl (by omega) (.slice a j c0) j xs (by rfl) hr1 ⟨w2.heap.size, 0, none⟩ 1 1 (acells u.h q2 u.ks.length) (by rfl) (by rfl) (news19 rfl) (cells_one19 _ _ _) (by omega) (by unfold maxLen; omega) (by omega) (by have := HB2.out.size; have := HL2.out; simp; omega) (w2.heap.size + 1) (by simp) ?_
     intro gg cap w3 hown3 hgrow3 hat3 hlt3
     obtain ⟨⟨s0, s1⟩, s2, s3, s4, s5⟩ := place_step HA.out HB2.out hr1 hr2 HT2.out HM2.out hown3 hgrow3 (told_of hat3)
     have HS2 := Lib.hid s2; have HS3 := Lib.hid s3; have HS4 := Lib.hid s4; have HS5 := Lib.hid s5
     clear hown hflat hown' hr1 hr2 hown3 hgrow3 hat3 hlt3 s2 s3 s4 s5
     refine HK2.out _ _ ⟨HS3.out, (HS4.out _ (by omega)).trans HN1.out⟩ (fun hHeld => ?_)
     clear HK2
     try simp only [Act.put, List.getElem_toArray, List.getElem_cons_succ, List.getElem_cons_zero, List.setIfInBounds_toArray, List.set_cons_zero, List.set_cons_succ]
     clear K
     refine wpAnyH_ready (rs := [10]) (by kernel_rfl) (by simp) ?_
     refine AllReadyH.cons rfl (fun K hK => ?_) AllReadyH.nil
     have HK2 := Lib.hid hK
     clear hK
     try rw [if_pos (by rfl)]
     go_simp
     refine HK2.out _ _ ⟨HS3.out, (HS4.out _ (by omega)).trans HN1.out⟩ (fun hHeld => ?_)
     clear HK2
     try simp only [Act.put, List.getElem_toArray, List.getElem_cons_succ, List.getElem_cons_zero, List.setIfInBounds_toArray, List.set_cons_zero, List.set_cons_succ]
     clear K
     refine wpAnyH_ready (rs := [11]) (by kernel_rfl) (by simp) ?_
     refine AllReadyH.cons rfl (fun K hK => ?_) AllReadyH.nil
     have HK2 := Lib.hid hK
     clear hK
     try rw [if_pos (by rfl)]
     go_simp
     refine HK2.out _ _ ⟨HS2.out.below, HS2.out.box⟩ (fun hHeld => ?_)
     clear HK2
     try simp only [Act.put, List.getElem_toArray, List.getElem_cons_succ, List.getElem_cons_zero, List.setIfInBounds_toArray, List.set_cons_zero, List.set_cons_succ]
     clear K
     refine wpAnyH_done (by kernel_rfl) ?_ _
     clear hHeld
     go_wp2_with (fail)
     go_roundw
     case rel => first | exact ⟨j + 1, some ⟨gg, 0, none⟩, cap, by omega, by go_num, Lib.hid (by rw [HTK.out]; exact HS2.out)⟩ | exact ⟨j + 1, by omega, by go_num, some ⟨gg, 0, none⟩, cap, Lib.hid (by rw [HTK.out]; exact HS2.out)⟩
     case measure => simp [intOf]; omega
    ·have HK2 := Lib.hid hK
     clear hK
     try rw [if_pos (by rfl)]
     go_simp
     refine HCALL.out.mono ?_
     rintro en w2 ⟨q2, rfl, hT2, hb2d⟩
     have hb2x := undrew' hb2d
     have hb2 : Below wr.heap.size wr w2 := below_then HBW.out hb2x HBW.out.size
     have hm2' : wr.heap.size ≤ wr.drew.heap.size := HBW.out.size
     have HT2 := Lib.hid hT2; have HB2 := Lib.hid hb2; have HM2 := Lib.hid hm2'
     clear hT2 hb2d hm2'
     refine HK2.out _ _ ⟨below_then HA.out.below HB2.out HA.out.below.size, (HB2.out.block _ (lt_of_block HN1.out)).trans HN1.out⟩ (fun hHeld => ?_)
     clear HK2
     try simp only [Act.put, List.getElem_toArray, List.getElem_cons_succ, List.getElem_cons_zero, List.setIfInBounds_toArray, List.set_cons_zero, List.set_cons_succ]
     clear K
     have q8 : w2.cell? ⟨w.heap.size + 2, 18, none⟩ = some (.slice a j c0) := by have := (HB2.out.block _ HL2.out).trans HOUT.out; simp [World.cell?, this]
     have q9 : w.heap.size + 2 < w2.heap.size := by have := HB2.out.size; have := HL2.out; omega
     refine wpAnyH_ready (rs := [1, 8]) (by kernel_rfl) (by simp) ?_
     refine AllReadyH.cons rfl (fun K hK => ?_) (AllReadyH.cons rfl (fun K hK => ?_) AllReadyH.nil)
     ·have HK2 := Lib.hid hK
      clear hK
      try rw [if_pos (by rfl)]
      go_simp
      refine HK2.out _ _ ⟨below_then HA.out.below HB2.out HA.out.below.size, (HB2.out.block _ (lt_of_block HN1.out)).trans HN1.out⟩ (fun hHeld => ?_)
      clear HK2
      try simp only [Act.put, List.getElem_toArray, List.getElem_cons_succ, List.getElem_cons_zero, List.setIfInBounds_toArray, List.set_cons_zero, List.set_cons_succ]
      clear K
      refine wpAnyH_ready (rs := [8]) (by kernel_rfl) (by simp) ?_
      refine AllReadyH.cons rfl (fun K hK => ?_) AllReadyH.nil
      have HK2 := Lib.hid hK
      clear hK
      have hz2 : w2.heap.size = w2.heap.size := rfl
      try rw [if_pos (by rfl)]
      go_simp
      refine HK2.out _ _ ⟨below_then HA.out.below (HB2.out.alloc HB2.out.size _) HA.out.below.size, ((HB2.out.alloc HB2.out.size _).block _ (lt_of_block HN1.out)).trans HN1.out⟩ (fun hHeld => ?_)
      clear HK2
      try simp only [Act.put, List.getElem_toArray, List.getElem_cons_succ, List.getElem_cons_zero, List.setIfInBounds_toArray, List.set_cons_zero, List.set_cons_succ]
      clear K
      refine wpAnyH_ready (rs := [9]) (by kernel_rfl) (by simp) ?_
      refine AllReadyH.cons rfl (fun K hK => ?_) AllReadyH.nil
      have HK2 := Lib.hid hK
      clear hK
      obtain ⟨xs, hown, hflat⟩ := HROW.out
      have hown' : wr.ownsRow (w.heap.size + 3) 31 19 (.slice a j c0) j xs := by rw [HA.out.len] at hown; exact hown
      have hr1 : (w2.alloc (.cells #[.int .u8 u.h.h.k, .int .u8 u.h.h.op, .int .i64 u.h.h.pl, .int .i64 u.h.h.n, .string u.h.h.name, .string u.h.h.arg, .string u.h.h.exn, .int .i64 u.h.rho, .slice q2.ra u.h.rhos.length q2.rc, .slice q2.ea u.h.e.length q2.ec, .int .u8 u.h.ty.h.k, .int .i64 u.h.ty.h.r, .slice q2.tea u.h.ty.h.e.length q2.tec, .slice q2.tka u.h.ty.ks.length q2.tkc, .int .u8 u.h.re.h.k, .int .i64 u.h.re.h.r, .slice q2.sea u.h.re.h.e.length q2.sec, .slice q2.ska u.h.re.ks.length q2.skc, .slice q2.ka u.ks.length q2.kc] 31)).ownsRow (w.heap.size + 3) 31 19 (.slice a j c0) j xs := Aterm.own_below hown' (HB2.out.alloc HB2.out.size _)
      have hr2 : Aterm.Flat (veil (seenA w0.heap.size (w.heap.size + 3) (.slice a j c0)) (w2.alloc (.cells #[.int .u8 u.h.h.k, .int .u8 u.h.h.op, .int .i64 u.h.h.pl, .int .i64 u.h.h.n, .string u.h.h.name, .string u.h.h.arg, .string u.h.h.exn, .int .i64 u.h.rho, .slice q2.ra u.h.rhos.length q2.rc, .slice q2.ea u.h.e.length q2.ec, .int .u8 u.h.ty.h.k, .int .i64 u.h.ty.h.r, .slice q2.tea u.h.ty.h.e.length q2.tec, .slice q2.tka u.h.ty.ks.length q2.tkc, .int .u8 u.h.re.h.k, .int .i64 u.h.re.h.r, .slice q2.sea u.h.re.h.e.length q2.sec, .slice q2.ska u.h.re.ks.length q2.skc, .slice q2.ka u.ks.length q2.kc] 31))) xs (zeroK (t.ks.take j)) := flat_reads (veil_to fun b hbl hp => ⟨hp, (HB2.out.alloc HB2.out.size _).block b hbl⟩) hflat
      refine step_append_lies _ (by rfl) _ _ _ (by rfl) (w.heap.size + 3) 31 i0 _ 19 280 Tryz.underlying29 HI0.out HZ0.out HZ1.out HZ2.out rfl (by omega) (.slice a j c0) j xs (by rfl) hr1 ⟨w2.heap.size, 0, none⟩ 1 1 (acells u.h q2 u.ks.length) (by rfl) (by rfl) (news19 rfl) (cells_one19 _ _ _) (by omega) (by unfold maxLen; omega) (by omega) (by have := HB2.out.size; have := HL2.out; simp; omega) (w2.heap.size + 1) (by simp) ?_
      intro gg cap w3 hown3 hgrow3 hat3 hlt3
      obtain ⟨⟨s0, s1⟩, s2, s3, s4, s5⟩ := place_step HA.out HB2.out hr1 hr2 HT2.out HM2.out hown3 hgrow3 (told_of hat3)
      have HS2 := Lib.hid s2; have HS3 := Lib.hid s3; have HS4 := Lib.hid s4; have HS5 := Lib.hid s5
      clear hown hflat hown' hr1 hr2 hown3 hgrow3 hat3 hlt3 s2 s3 s4 s5
      refine HK2.out _ _ ⟨HS3.out, (HS4.out _ (by omega)).trans HN1.out⟩ (fun hHeld => ?_)
      clear HK2
      try simp only [Act.put, List.getElem_toArray, List.getElem_cons_succ, List.getElem_cons_zero, List.setIfInBounds_toArray, List.set_cons_zero, List.set_cons_succ]
      clear K
      refine wpAnyH_ready (rs := [10]) (by kernel_rfl) (by simp) ?_
      refine AllReadyH.cons rfl (fun K hK => ?_) AllReadyH.nil
      have HK2 := Lib.hid hK
      clear hK
      try rw [if_pos (by rfl)]
      go_simp
      refine HK2.out _ _ ⟨HS3.out, (HS4.out _ (by omega)).trans HN1.out⟩ (fun hHeld => ?_)
      clear HK2
      try simp only [Act.put, List.getElem_toArray, List.getElem_cons_succ, List.getElem_cons_zero, List.setIfInBounds_toArray, List.set_cons_zero, List.set_cons_succ]
      clear K
      refine wpAnyH_ready (rs := [11]) (by kernel_rfl) (by simp) ?_
      refine AllReadyH.cons rfl (fun K hK => ?_) AllReadyH.nil
      have HK2 := Lib.hid hK
      clear hK
      try rw [if_pos (by rfl)]
      go_simp
      refine HK2.out _ _ ⟨HS2.out.below, HS2.out.box⟩ (fun hHeld => ?_)
      clear HK2
      try simp only [Act.put, List.getElem_toArray, List.getElem_cons_succ, List.getElem_cons_zero, List.setIfInBounds_toArray, List.set_cons_zero, List.set_cons_succ]
      clear K
      refine wpAnyH_done (by kernel_rfl) ?_ _
      clear hHeld
      go_wp2_with (fail)
      go_roundw
      case rel => first | exact ⟨j + 1, some ⟨gg, 0, none⟩, cap, by omega, by go_num, Lib.hid (by rw [HTK.out]; exact HS2.out)⟩ | exact ⟨j + 1, by omega, by go_num, some ⟨gg, 0, none⟩, cap, Lib.hid (by rw [HTK.out]; exact HS2.out)⟩
      case measure => simp [intOf]; omega
     ·have HK2 := Lib.hid hK
      clear hK
      have hz2 : w2.heap.size = w2.heap.size := rfl
      try rw [if_pos (by rfl)]
      go_simp
      refine HK2.out _ _ ⟨below_then HA.out.below (HB2.out.alloc HB2.out.size _) HA.out.below.size, ((HB2.out.alloc HB2.out.size _).block _ (lt_of_block HN1.out)).trans HN1.out⟩ (fun hHeld => ?_)
      clear HK2
      try simp only [Act.put, List.getElem_toArray, List.getElem_cons_succ, List.getElem_cons_zero, List.setIfInBounds_toArray, List.set_cons_zero, List.set_cons_succ]
      clear K
      refine wpAnyH_ready (rs := [1]) (by kernel_rfl) (by simp) ?_
      refine AllReadyH.cons rfl (fun K hK => ?_) AllReadyH.nil
      have HK2 := Lib.hid hK
      clear hK
      try rw [if_pos (by rfl)]
      go_simp
      refine HK2.out _ _ ⟨below_then HA.out.below (HB2.out.alloc HB2.out.size _) HA.out.below.size, ((HB2.out.alloc HB2.out.size _).block _ (lt_of_block HN1.out)).trans HN1.out⟩ (fun hHeld => ?_)
      clear HK2
      try simp only [Act.put, List.getElem_toArray, List.getElem_cons_succ, List.getElem_cons_zero, List.setIfInBounds_toArray, List.set_cons_zero, List.set_cons_succ]
      clear K
      refine wpAnyH_ready (rs := [9]) (by kernel_rfl) (by simp) ?_
      refine AllReadyH.cons rfl (fun K hK => ?_) AllReadyH.nil
      have HK2 := Lib.hid hK
      clear hK
      obtain ⟨xs, hown, hflat⟩ := HROW.out
      have hown' : wr.ownsRow (w.heap.size + 3) 31 19 (.slice a j c0) j xs := by rw [HA.out.len] at hown; exact hown
      have hr1 : (w2.alloc (.cells #[.int .u8 u.h.h.k, .int .u8 u.h.h.op, .int .i64 u.h.h.pl, .int .i64 u.h.h.n, .string u.h.h.name, .string u.h.h.arg, .string u.h.h.exn, .int .i64 u.h.rho, .slice q2.ra u.h.rhos.length q2.rc, .slice q2.ea u.h.e.length q2.ec, .int .u8 u.h.ty.h.k, .int .i64 u.h.ty.h.r, .slice q2.tea u.h.ty.h.e.length q2.tec, .slice q2.tka u.h.ty.ks.length q2.tkc, .int .u8 u.h.re.h.k, .int .i64 u.h.re.h.r, .slice q2.sea u.h.re.h.e.length q2.sec, .slice q2.ska u.h.re.ks.length q2.skc, .slice q2.ka u.ks.length q2.kc] 31)).ownsRow (w.heap.size + 3) 31 19 (.slice a j c0) j xs := Aterm.own_below hown' (HB2.out.alloc HB2.out.size _)
      have hr2 : Aterm.Flat (veil (seenA w0.heap.size (w.heap.size + 3) (.slice a j c0)) (w2.alloc (.cells #[.int .u8 u.h.h.k, .int .u8 u.h.h.op, .int .i64 u.h.h.pl, .int .i64 u.h.h.n, .string u.h.h.name, .string u.h.h.arg, .string u.h.h.exn, .int .i64 u.h.rho, .slice q2.ra u.h.rhos.length q2.rc, .slice q2.ea u.h.e.length q2.ec, .int .u8 u.h.ty.h.k, .int .i64 u.h.ty.h.r, .slice q2.tea u.h.ty.h.e.length q2.tec, .slice q2.tka u.h.ty.ks.length q2.tkc, .int .u8 u.h.re.h.k, .int .i64 u.h.re.h.r, .slice q2.sea u.h.re.h.e.length q2.sec, .slice q2.ska u.h.re.ks.length q2.skc, .slice q2.ka u.ks.length q2.kc] 31))) xs (zeroK (t.ks.take j)) := flat_reads (veil_to fun b hbl hp => ⟨hp, (HB2.out.alloc HB2.out.size _).block b hbl⟩) hflat
      refine step_append_lies _ (by rfl) _ _ _ (by rfl) (w.heap.size + 3) 31 i0 _ 19 280 Tryz.underlying29 HI0.out HZ0.out HZ1.out HZ2.out rfl (by omega) (.slice a j c0) j xs (by rfl) hr1 ⟨w2.heap.size, 0, none⟩ 1 1 (acells u.h q2 u.ks.length) (by rfl) (by rfl) (news19 rfl) (cells_one19 _ _ _) (by omega) (by unfold maxLen; omega) (by omega) (by have := HB2.out.size; have := HL2.out; simp; omega) (w2.heap.size + 1) (by simp) ?_
      intro gg cap w3 hown3 hgrow3 hat3 hlt3
      obtain ⟨⟨s0, s1⟩, s2, s3, s4, s5⟩ := place_step HA.out HB2.out hr1 hr2 HT2.out HM2.out hown3 hgrow3 (told_of hat3)
      have HS2 := Lib.hid s2; have HS3 := Lib.hid s3; have HS4 := Lib.hid s4; have HS5 := Lib.hid s5
      clear hown hflat hown' hr1 hr2 hown3 hgrow3 hat3 hlt3 s2 s3 s4 s5
      refine HK2.out _ _ ⟨HS3.out, (HS4.out _ (by omega)).trans HN1.out⟩ (fun hHeld => ?_)
      clear HK2
      try simp only [Act.put, List.getElem_toArray, List.getElem_cons_succ, List.getElem_cons_zero, List.setIfInBounds_toArray, List.set_cons_zero, List.set_cons_succ]
      clear K
      refine wpAnyH_ready (rs := [10]) (by kernel_rfl) (by simp) ?_
      refine AllReadyH.cons rfl (fun K hK => ?_) AllReadyH.nil
      have HK2 := Lib.hid hK
      clear hK
      try rw [if_pos (by rfl)]
      go_simp
      refine HK2.out _ _ ⟨HS3.out, (HS4.out _ (by omega)).trans HN1.out⟩ (fun hHeld => ?_)
      clear HK2
      try simp only [Act.put, List.getElem_toArray, List.getElem_cons_succ, List.getElem_cons_zero, List.setIfInBounds_toArray, List.set_cons_zero, List.set_cons_succ]
      clear K
      refine wpAnyH_ready (rs := [11]) (by kernel_rfl) (by simp) ?_
      refine AllReadyH.cons rfl (fun K hK => ?_) AllReadyH.nil
      have HK2 := Lib.hid hK
      clear hK
      try rw [if_pos (by rfl)]
      go_simp
      refine HK2.out _ _ ⟨HS2.out.below, HS2.out.box⟩ (fun hHeld => ?_)
      clear HK2
      try simp only [Act.put, List.getElem_toArray, List.getElem_cons_succ, List.getElem_cons_zero, List.setIfInBounds_toArray, List.set_cons_zero, List.set_cons_succ]
      clear K
      refine wpAnyH_done (by kernel_rfl) ?_ _
      clear hHeld
      go_wp2_with (fail)
      go_roundw
      case rel => first | exact ⟨j + 1, some ⟨gg, 0, none⟩, cap, by omega, by go_num, Lib.hid (by rw [HTK.out]; exact HS2.out)⟩ | exact ⟨j + 1, by omega, by go_num, some ⟨gg, 0, none⟩, cap, Lib.hid (by rw [HTK.out]; exact HS2.out)⟩
      case measure => simp [intOf]; omega
   ·obtain rfl : j = l := by omega
    have hk := List.take_of_length_le (l := t.ks) (i := j) (by rw [HT.out.len]; exact Nat.le_refl _)
    have HKK := Lib.hid hk
    have ha := HA.out
    rw [hk] at ha
    have HAA := Lib.hid ha
    have HOR := Lib.hid (box_blk (h := zeroH h) (v := { v with ka := a, kc := c0 }) (l := j) ha.out).range
    clear hk ha
    go_wp2_with (first | refine at_load rfl _ rfl (w.heap.size + 2) 0 rfl HOR.out ?_ | refine wpList_store_row rfl _ _ _ rfl (w.heap.size + 1) _ rfl rfl _ _ HAA.out.res atInfo rfl (all_oneCell_toArray (cs := acells (zeroH h) { v with ka := a, kc := c0 } j) (cells_one19 _ _ _)) ?_)
    refine bodyPost_ret (v := .agg #[.int .u8 h.h.k, .int .u8 h.h.op, .int .i64 0, .int .i64 h.h.n, .string h.h.name, .string h.h.arg, .string h.h.exn, .int .i64 h.rho, .slice v.ra h.rhos.length v.rc, .slice v.ea h.e.length v.ec, .int .u8 h.ty.h.k, .int .i64 h.ty.h.r, .slice v.tea h.ty.h.e.length v.tec, .slice v.tka h.ty.ks.length v.tkc, .int .u8 h.re.h.k, .int .i64 h.re.h.r, .slice v.sea h.re.h.e.length v.sec, .slice v.ska h.re.ks.length v.skc, .slice a j c0]) (results_cell_row (by rfl) _ _ (w.heap.size + 1) 31 _ (0, 0) _ rfl (setRow_heap _ _ _ _ _ _ HAA.out.res) Tryz.underlying31 rfl atInfo) rfl ?_
    rw [HER.out]
    exact place_end HT.out.ok HB00.out HAA.out (fun b hb => setRow_other _ _ _ _ hb) (below_setRow HAA.out.below (by omega) _)
end Disp
end Go.Proofs.YtkfkpjngiffamaaGreatDoor
namespace Go.Proofs.YtkfkpjngiffamaaGreatDoor
open Go.RowKit
set_option linter.unusedVariables false
set_option linter.unusedSimpArgs false
namespace Disp
open Aterm (AT Hd tget wt wts nodeB allT allK)
open Effect (At ofA textE textA digs atomB)
open Types (jb bl wInt wOpen wShut wStar wRef wArrow bl_jb bl_inj bl_app bl_cons bl_one bl_append jb_one)
open Rt (wAt wBang kw)
open Words (nameB exnB wordB ints)
open SE (atom node)

theorem noC_to {q : List SE} : NoC (atom wTo :: q) := noC_cons (by decide)
theorem noC_is {q : List SE} : NoC (atom wIs :: q) := noC_cons (by decide)
theorem noC_atA {r : Int} : NoC (atA r) := noC_at
theorem atA_inj {a b : Int} (ha : 0 ≤ a) (hb : 0 ≤ b) (h : atA a = atA b) : a = b := by
 unfold atA at h
 simp only [List.cons.injEq, SE.atom.injEq, true_and, and_true] at h
 exact digs_inj ha hb h
theorem atA_app {a b : Int} {r s : List SE} (ha : 0 ≤ a) (hb : 0 ≤ b) (h : atA a ++ r = atA b ++ s) : a = b ∧ r = s := by
 unfold atA at h
 simp only [List.cons_append, List.nil_append, List.cons.injEq, SE.atom.injEq, true_and] at h
 exact ⟨digs_inj ha hb h.1, h.2⟩
theorem sign_inj {a b : Int} (ha : 1 ≤ a ∧ a ≤ 5) (hb : 1 ≤ b ∧ b ≤ 5) (h : signW a = signW b) : a = b := by
 have d : ∀ i j : Fin 5, signW ((i : Nat) + 1 : Int) = signW ((j : Nat) + 1 : Int) → i = j := by decide
 have h1 := d ⟨(a - 1).toNat, by omega⟩ ⟨(b - 1).toNat, by omega⟩ (by
  have e1 : (((a - 1).toNat : Nat) : Int) + 1 = a := by omega
  have e2 : (((b - 1).toNat : Nat) : Int) + 1 = b := by omega
  simp only [e1, e2]
  exact h)
 have h2 := Fin.mk.inj h1
 omega
set_option maxHeartbeats 6400000 in
theorem sx_inj : ∀ m : Nat, ∀ t u : AT, wt t ≤ m → allT nodeB t = true → allT nodeB u = true → sx t = sx u → zeroT t = zeroT u := by
 intro m
 induction m with
 | zero => intro t u h; have := Aterm.wt_pos t; omega
 | succ m ih =>
  intro t u h ht hu e
  have hkk : t.h.h.k = u.h.h.k := by rw [← kind_sx ht, ← kind_sx hu, e]
  have A := nd_of (top_all ht)
  have B := nd_of (top_all hu)
  have S := fun i (hi : i < t.ks.length) => kS_get hi
  have S' := fun i (hi : i < u.ks.length) => kS_get hi
  have fin : t.ks.length = u.ks.length → (∀ i, i < t.ks.length → zeroT (tget t.ks i) = zeroT (tget u.ks i)) → zeroH t.h = zeroH u.h → zeroT t = zeroT u := fun h1 h2 h3 => by
   rw [zeroT_eq, zeroT_eq, h3, zero_kids h1 h2]
  have kid : ∀ i, i < t.ks.length → i < u.ks.length → sx (tget t.ks i) = sx (tget u.ks i) → zeroT (tget t.ks i) = zeroT (tget u.ks i) := fun i h1 h2 h3 =>
   ih _ _ (by have := Aterm.wts_get h1; have := Aterm.wt_ks t; omega) (kid_all ht h1) (kid_all hu h2) h3
  have ku := kinds hu
  rw [sx_eq, sx_eq] at e
  unfold sxH inS at e
  rcases kinds ht with ⟨hk, hl⟩ | ⟨hk, hl⟩ | ⟨hk, hl⟩ | ⟨hk, hl⟩
  ·have hl' : u.ks.length = 0 := by omega
   refine fin (by omega) (fun i hi => by omega) ?_
   rcases hk with hk | hk | hk
   ·have hk' : u.h.h.k = 1 := by omega
    simp only [hk, hk', ↓reduceIte, Int.reduceEq, SE.atom.injEq] at e
    have e1 := digs_inj A.n.1 B.n.1 e
    refine head_eq A B hkk ?_ ?_ ?_ ?_ ?_ ?_ ?_ ?_ ?_ ?_ <;> intro hh <;> first | assumption | omega
   ·have hk' : u.h.h.k = 2 := by omega
    simp only [hk, hk', ↓reduceIte, Int.reduceEq, SE.atom.injEq] at e
    refine head_eq A B hkk ?_ ?_ ?_ ?_ ?_ ?_ ?_ ?_ ?_ ?_ <;> intro hh <;> first | assumption | omega
   ·have hk' : u.h.h.k = 18 := by omega
    simp only [hk, hk', ↓reduceIte, Int.reduceEq, SE.atom.injEq, SE.node.injEq, List.cons.injEq] at e
    obtain ⟨e1, e2⟩ := e
    obtain ⟨e3, e4⟩ := rhos_inj A.rhos.1 B.rhos.1 e2
    simp only [List.cons.injEq, true_and] at e4
    obtain ⟨e5, e6⟩ := effO_inj noC_atA noC_atA e4
    have e7 := atA_inj A.rho.1 B.rho.1 e6
    refine head_eq A B hkk ?_ ?_ ?_ ?_ ?_ ?_ ?_ ?_ ?_ ?_ <;> intro hh <;> first | assumption | omega
  ·have hl' : u.ks.length = 1 := by omega
   have s0 := S 0 (by omega)
   have t0 := S' 0 (by omega)
   have one : sx (tget t.ks 0) = sx (tget u.ks 0) → zeroH t.h = zeroH u.h → zeroT t = zeroT u := fun h1 h2 => fin (by omega) (fun i hi => by
    obtain rfl : i = 0 := by omega
    exact kid 0 (by omega) (by omega) h1) h2
   rcases hk with hk | hk | hk | hk | hk | hk | hk
   ·have hk' : u.h.h.k = 4 := by omega
    simp only [hk, hk', s0, t0, ↓reduceIte, Int.reduceEq, SE.atom.injEq, SE.node.injEq, List.cons.injEq, true_and, and_true] at e
    refine one e (head_eq A B hkk ?_ ?_ ?_ ?_ ?_ ?_ ?_ ?_ ?_ ?_) <;> intro hh <;> first | assumption | omega
   ·have hk' : u.h.h.k = 5 := by omega
    simp only [hk, hk', s0, t0, ↓reduceIte, Int.reduceEq, SE.atom.injEq, SE.node.injEq, List.cons.injEq, true_and, and_true] at e
    refine one e (head_eq A B hkk ?_ ?_ ?_ ?_ ?_ ?_ ?_ ?_ ?_ ?_) <;> intro hh <;> first | assumption | omega
   ·have hk' : u.h.h.k = 6 := by omega
    simp only [hk, hk', s0, t0, ↓reduceIte, Int.reduceEq, SE.atom.injEq, SE.node.injEq, List.cons.injEq, true_and, and_true] at e
    have e7 := atA_inj A.rho.1 B.rho.1 e.2
    refine one e.1 (head_eq A B hkk ?_ ?_ ?_ ?_ ?_ ?_ ?_ ?_ ?_ ?_) <;> intro hh <;> first | assumption | omega
   ·have hk' : u.h.h.k = 7 := by omega
    simp only [hk, hk', s0, t0, ↓reduceIte, Int.reduceEq, SE.atom.injEq, SE.node.injEq, List.cons.injEq, true_and, and_true] at e
    refine one e (head_eq A B hkk ?_ ?_ ?_ ?_ ?_ ?_ ?_ ?_ ?_ ?_) <;> intro hh <;> first | assumption | omega
   ·have hk' : u.h.h.k = 11 := by omega
    simp only [hk, hk', s0, t0, ↓reduceIte, Int.reduceEq, SE.atom.injEq, SE.node.injEq, List.cons.injEq, true_and, and_true] at e
    obtain ⟨e1, e2, e3⟩ := e
    obtain ⟨e5, e6⟩ := effO_inj noC_to noC_to e3
    simp only [List.cons.injEq, true_and] at e6
    have e7 := atA_inj A.rho.1 B.rho.1 e6.2
    have e8 := tyS_inj (iff_pos A.ty (by omega)) (iff_pos B.ty (by omega)) e2
    refine one e6.1 (head_eq A B hkk ?_ ?_ ?_ ?_ ?_ ?_ ?_ ?_ ?_ ?_) <;> intro hh <;> first | assumption | omega
   ·have hk' : u.h.h.k = 15 := by omega
    simp only [hk, hk', s0, t0, ↓reduceIte, Int.reduceEq, SE.atom.injEq, SE.node.injEq, List.cons.injEq, true_and, and_true] at e
    obtain ⟨e1, e2, e3⟩ := e
    have e8 := tyS_inj (iff_pos A.ty (by omega)) (iff_pos B.ty (by omega)) e3
    refine one e2 (head_eq A B hkk ?_ ?_ ?_ ?_ ?_ ?_ ?_ ?_ ?_ ?_) <;> intro hh <;> first | assumption | omega
   ·have hk' : u.h.h.k = 17 := by omega
    simp only [hk, hk', s0, t0, ↓reduceIte, Int.reduceEq, SE.atom.injEq, SE.node.injEq, List.cons.injEq, true_and, and_true] at e
    have e7 := digs_inj A.rho.1 B.rho.1 e.1
    refine one e.2 (head_eq A B hkk ?_ ?_ ?_ ?_ ?_ ?_ ?_ ?_ ?_ ?_) <;> intro hh <;> first | assumption | omega
  ·have hl' : u.ks.length = 2 := by omega
   have s0 := S 0 (by omega)
   have t0 := S' 0 (by omega)
   have s1 := S 1 (by omega)
   have t1 := S' 1 (by omega)
   have two : sx (tget t.ks 0) = sx (tget u.ks 0) → sx (tget t.ks 1) = sx (tget u.ks 1) → zeroH t.h = zeroH u.h → zeroT t = zeroT u := fun h1 h2 h3 => fin (by omega) (fun i hi => by
    have : i = 0 ∨ i = 1 := by omega
    rcases this with rfl | rfl
    ·exact kid 0 (by omega) (by omega) h1
    ·exact kid 1 (by omega) (by omega) h2) h3
   rcases hk with hk | hk | hk | hk | hk | hk | hk
   ·have hk' : u.h.h.k = 3 := by omega
    simp only [hk, hk', s0, t0, s1, t1, ↓reduceIte, Int.reduceEq, SE.atom.injEq, SE.node.injEq, List.cons.injEq, true_and, and_true] at e
    have e7 := atA_inj A.rho.1 B.rho.1 e.2.2
    refine two e.1 e.2.1 (head_eq A B hkk ?_ ?_ ?_ ?_ ?_ ?_ ?_ ?_ ?_ ?_) <;> intro hh <;> first | assumption | omega
   ·have hk' : u.h.h.k = 8 := by omega
    simp only [hk, hk', s0, t0, s1, t1, ↓reduceIte, Int.reduceEq, SE.atom.injEq, SE.node.injEq, List.cons.injEq, true_and, and_true] at e
    refine two e.1 e.2 (head_eq A B hkk ?_ ?_ ?_ ?_ ?_ ?_ ?_ ?_ ?_ ?_) <;> intro hh <;> first | assumption | omega
   ·have hk' : u.h.h.k = 9 := by omega
    simp only [hk, hk', s0, t0, s1, t1, ↓reduceIte, Int.reduceEq, SE.atom.injEq, SE.node.injEq, List.cons.injEq, true_and, and_true] at e
    have e7 := sign_inj (iff_pos A.op hk) (iff_pos B.op hk') e.2.1
    refine two e.1 e.2.2 (head_eq A B hkk ?_ ?_ ?_ ?_ ?_ ?_ ?_ ?_ ?_ ?_) <;> intro hh <;> first | assumption | omega
   ·have hk' : u.h.h.k = 10 := by omega
    simp only [hk, hk', s0, t0, s1, t1, ↓reduceIte, Int.reduceEq, SE.atom.injEq, SE.node.injEq, List.cons.injEq, true_and, and_true] at e
    refine two e.1 e.2 (head_eq A B hkk ?_ ?_ ?_ ?_ ?_ ?_ ?_ ?_ ?_ ?_) <;> intro hh <;> first | assumption | omega
   ·have hk' : u.h.h.k = 12 := by omega
    simp only [hk, hk', s0, t0, s1, t1, ↓reduceIte, Int.reduceEq, SE.atom.injEq, SE.node.injEq, List.cons.injEq, true_and, and_true] at e
    obtain ⟨e1, e2, e3⟩ := e
    refine two e2 e3 (head_eq A B hkk ?_ ?_ ?_ ?_ ?_ ?_ ?_ ?_ ?_ ?_) <;> intro hh <;> first | assumption | omega
   ·have hk' : u.h.h.k = 13 := by omega
    simp only [hk, hk', s0, t0, s1, t1, ↓reduceIte, Int.reduceEq, SE.atom.injEq, SE.node.injEq, List.cons.injEq, true_and, and_true] at e
    obtain ⟨e1, e2⟩ := e
    obtain ⟨e3, e4⟩ := rhos_inj A.rhos.1 B.rhos.1 e2
    simp only [List.cons.injEq, SE.atom.injEq, true_and] at e4
    obtain ⟨e5, e6, e7, e8⟩ := e4
    obtain ⟨e9, e10⟩ := effO_inj noC_is noC_is e8
    simp only [List.cons.injEq, true_and] at e10
    obtain ⟨e11, e12⟩ := e10
    obtain ⟨e13, e14⟩ := atA_app A.rho.1 B.rho.1 e12
    simp only [List.cons.injEq, true_and, and_true] at e14
    have e15 := tyS_inj (iff_pos A.ty (by omega)) (iff_pos B.ty (by omega)) e6
    have e16 := tyS_inj (iff_pos A.re hk) (iff_pos B.re hk') e7
    refine two e11 e14 (head_eq A B hkk ?_ ?_ ?_ ?_ ?_ ?_ ?_ ?_ ?_ ?_) <;> intro hh <;> first | assumption | omega
   ·have hk' : u.h.h.k = 16 := by omega
    simp only [hk, hk', s0, t0, s1, t1, ↓reduceIte, Int.reduceEq, SE.atom.injEq, SE.node.injEq, List.cons.injEq, true_and, and_true] at e
    obtain ⟨e1, e2, e3, e4⟩ := e
    refine two e1 e4 (head_eq A B hkk ?_ ?_ ?_ ?_ ?_ ?_ ?_ ?_ ?_ ?_) <;> intro hh <;> first | assumption | omega
  ·have hl' : u.ks.length = 3 := by omega
   have s0 := S 0 (by omega)
   have t0 := S' 0 (by omega)
   have s1 := S 1 (by omega)
   have t1 := S' 1 (by omega)
   have s2 := S 2 (by omega)
   have t2 := S' 2 (by omega)
   have hk' : u.h.h.k = 14 := by omega
   simp only [hk, hk', s0, t0, s1, t1, s2, t2, ↓reduceIte, Int.reduceEq, SE.atom.injEq, SE.node.injEq, List.cons.injEq, true_and, and_true] at e
   obtain ⟨e1, e2, e3⟩ := e
   refine fin (by omega) (fun i hi => ?_) (head_eq A B hkk ?_ ?_ ?_ ?_ ?_ ?_ ?_ ?_ ?_ ?_)
   ·have : i = 0 ∨ i = 1 ∨ i = 2 := by omega
    rcases this with rfl | rfl | rfl
    ·exact kid 0 (by omega) (by omega) e1
    ·exact kid 1 (by omega) (by omega) e2
    ·exact kid 2 (by omega) (by omega) e3
   all_goals intro hh; first | assumption | omega
theorem nobl_of {w : ByteArray} (h : Seen w) : Types.NoBl (bl w) := fun hm => by
 have := (h.2 32 hm).1
 have e : (32 : UInt8).toNat = 32 := rfl
 omega
theorem text_tells {t u : AT} (ht : allT nodeB t = true) (hu : allT nodeB u = true) (h : jb (partsT t) = jb (partsT u)) : zeroT t = zeroT u := by
 rw [text_flat ht, text_flat hu] at h
 have gt := good_sx ht
 have gu := good_sx hu
 have h1 := Types.jb_inj (fun x hx => nobl_of (seen_flat gt x hx)) (fun x hx => nobl_of (seen_flat gu x hx)) (flat_ne _) (flat_ne _) h
 exact sx_inj _ t u (Nat.le_refl _) ht hu (flat_one gt gu h1)
theorem rt_same : ∀ m : Nat, (∀ t u : Rt.RT, Rt.wt t ≤ m → Rt.sameT t u = true → sxR t = sxR u) ∧ (∀ l k : List Rt.RT, Rt.wts l ≤ m → l.length = k.length → Rt.sameK l k = true → sxRK l = sxRK k) := by
 intro m
 induction m with
 | zero =>
  refine ⟨fun t u h => by have := Rt.wt_pos t; omega, fun l k h hl _ => ?_⟩
  cases l with
  | nil => rw [List.length_eq_zero_iff.1 hl.symm]
  | cons t ts => rw [Rt.wts_cons] at h; have := Rt.wt_pos t; omega
 | succ m ih =>
  have hT : ∀ t u : Rt.RT, Rt.wt t ≤ m + 1 → Rt.sameT t u = true → sxR t = sxR u := by
   intro t u h hs
   rw [Rt.sameT_eq] at hs
   simp only [Bool.and_eq_true, decide_eq_true_eq] at hs
   obtain ⟨⟨⟨⟨h1, h2⟩, h3⟩, h4⟩, h5⟩ := hs
   have hk := Rt.wt_ks t
   have h6 := ih.2 t.ks u.ks (by omega) h4 h5
   rw [sxR_eq, sxR_eq, h6]
   unfold rhS inR
   rw [h1, h2, h3]
  refine ⟨hT, fun l => ?_⟩
  induction l with
  | nil => intro k _ hl _; rw [List.length_eq_zero_iff.1 hl.symm]
  | cons t ts ihl =>
   intro k h hl hs
   rw [Rt.wts_cons] at h
   cases k with
   | nil => simp at hl
   | cons u us =>
    rw [Rt.sameK_cons, Bool.and_eq_true] at hs
    rw [sxRK, sxRK, hT t u (by omega) hs.1, ihl us (by omega) (by simpa using hl) hs.2]
theorem rt_same_sx {t u : Rt.RT} (h : Rt.sameT t u = true) : sxR t = sxR u := (rt_same _).1 t u (Nat.le_refl _) h
theorem at_same : ∀ m : Nat, (∀ t u : AT, wt t ≤ m → Aterm.sameT t u = true → sx t = sx u) ∧ (∀ l k : List AT, wts l ≤ m → l.length = k.length → Aterm.sameK l k = true → sxK l = sxK k) := by
 intro m
 induction m with
 | zero =>
  refine ⟨fun t u h => by have := Aterm.wt_pos t; omega, fun l k h hl _ => ?_⟩
  cases l with
  | nil => rw [List.length_eq_zero_iff.1 hl.symm]
  | cons t ts => rw [Aterm.wts_cons] at h; have := Aterm.wt_pos t; omega
 | succ m ih =>
  have hT : ∀ t u : AT, wt t ≤ m + 1 → Aterm.sameT t u = true → sx t = sx u := by
   intro t u h hs
   rw [Aterm.sameT_eq] at hs
   simp only [Bool.and_eq_true, decide_eq_true_eq] at hs
   obtain ⟨⟨h1, h4⟩, h5⟩ := hs
   have hk := Aterm.wt_ks t
   have h6 := ih.2 t.ks u.ks (by omega) h4 h5
   unfold Aterm.sameH at h1
   simp only [Bool.and_eq_true, decide_eq_true_eq] at h1
   obtain ⟨⟨⟨⟨⟨⟨g1, g2, g3, g4, g5, g6, g7⟩, g8⟩, g9⟩, g10⟩, g11⟩, g12⟩ := h1
   have g13 := rt_same_sx g11
   have g14 := rt_same_sx g12
   rw [sx_eq, sx_eq, h6]
   unfold sxH inS
   rw [g1, g2, g4, g5, g6, g7, g8, g9, g10, g13, g14]
  refine ⟨hT, fun l => ?_⟩
  induction l with
  | nil => intro k _ hl _; rw [List.length_eq_zero_iff.1 hl.symm]
  | cons t ts ihl =>
   intro k h hl hs
   rw [Aterm.wts_cons] at h
   cases k with
   | nil => simp at hl
   | cons u us =>
    rw [Aterm.sameK_cons, Bool.and_eq_true] at hs
    rw [sxK, sxK, hT t u (by omega) hs.1, ihl us (by omega) (by simpa using hl) hs.2]
theorem sx_zero : ∀ m : Nat, (∀ t : AT, wt t ≤ m → sx (zeroT t) = sx t) ∧ (∀ l : List AT, wts l ≤ m → sxK (zeroK l) = sxK l) := by
 intro m
 induction m with
 | zero =>
  refine ⟨fun t h => by have := Aterm.wt_pos t; omega, fun l h => ?_⟩
  cases l with
  | nil => rw [zeroK]
  | cons t ts => rw [Aterm.wts_cons] at h; have := Aterm.wt_pos t; omega
 | succ m ih =>
  have hT : ∀ t : AT, wt t ≤ m + 1 → sx (zeroT t) = sx t := by
   intro t h
   have hk := Aterm.wt_ks t
   rw [sx_eq, sx_eq, zeroT_h, zeroT_ks, ih.2 t.ks (by omega)]
   rfl
  refine ⟨hT, fun l => ?_⟩
  induction l with
  | nil => intro _; rw [zeroK]
  | cons t ts ihl =>
   intro h
   rw [Aterm.wts_cons] at h
   rw [zeroK, sxK, sxK, hT t (by omega), ihl (by omega)]
theorem text_iff {t u : AT} (ht : allT nodeB t = true) (hu : allT nodeB u = true) : jb (partsT t) = jb (partsT u) ↔ Aterm.sameT (zeroT t) (zeroT u) = true := by
 constructor
 ·intro h
  rw [text_tells ht hu h]
  exact Aterm.same_self _
 ·intro h
  have h1 := (at_same _).1 _ _ (Nat.le_refl _) h
  rw [(sx_zero _).1 t (Nat.le_refl _), (sx_zero _).1 u (Nat.le_refl _)] at h1
  rw [text_flat ht, text_flat hu, h1]
end Disp
end Go.Proofs.YtkfkpjngiffamaaGreatDoor
namespace Go.Proofs.YtkfkpjngiffamaaGreatDoor
open Go.RowKit
set_option linter.unusedVariables false
namespace Term

theorem refNode_walk (h : Hd) (p : Option Addr) (l c : Nat) (w : World) (ho : HdOk h) (hl : l ≤ maxLen) :
  Calls Tryz.prog 56 #[.agg #[.int .u8 h.k, .int .u8 h.op, .int .i64 h.pl, .int .i64 h.n, .string h.name, .string h.arg, .string h.exn, .slice p l c]] w fun e w' => e = .returned (.bool (nodeB h l)) ∧ Below w.heap.size w w' := by
 obtain ⟨k, op, pl, nn, nm, ar, ex⟩ := h
 obtain ⟨h1, h2, h3, h4, h5, h6, h7⟩ := ho
 simp only at h1 h2 h3 h4 h5 h6 h7
 have hl' : l ≤ 9223372036854775807 := by unfold maxLen at hl; omega
 by_cases a1 : kidsN k = l ∧ 0 ≤ pl
 ·by_cases a2 : opOk ⟨k, op, pl, nn, nm, ar, ex⟩
  ·by_cases a3 : nOk ⟨k, op, pl, nn, nm, ar, ex⟩
   ·rw [nodeB_yes (h := ⟨k, op, pl, nn, nm, ar, ex⟩) ⟨a1.1, a1.2, a2, a3⟩]
    refine node_fits k op pl nn nm ar ex p l c w h1 h2 hl' a1.1 a1.2 ?_ h5 h6 h7
    unfold opOk at a2
    unfold nOk at a3
    simp only at a2 a3
    by_cases e9 : k = 9
    ·subst e9
     rw [if_pos rfl] at a2
     exact .inl ⟨by decide, by decide, by decide, a2.1, a2.2, a3.2.2 (by omega)⟩
    ·rw [if_neg e9] at a2
     by_cases e1 : k = 1
     ·subst e1
      exact .inr (.inl ⟨by decide, by decide, a2, by decide, a3.1, a3.2.1⟩)
     ·exact .inr (.inr ⟨by simpa using e9, by simpa using e9, a2, by simpa using e1, a3.2.2 e1⟩)
   ·rw [nodeB_no (h := ⟨k, op, pl, nn, nm, ar, ex⟩) (fun h => a3 h.2.2.2)]
    exact node_ns k op pl nn nm ar ex p l c w h1 h2 hl' a1.1 a1.2 a2 a3
  ·rw [nodeB_no (h := ⟨k, op, pl, nn, nm, ar, ex⟩) (fun h => a2 h.2.2.1)]
   exact node_ops k op pl nn nm ar ex p l c w h1 h2 hl' a1.1 a1.2 a2
 ·rw [nodeB_no (h := ⟨k, op, pl, nn, nm, ar, ex⟩) (fun h => a1 ⟨h.1, h.2.1⟩)]
  exact node_kids k op pl nn nm ar ex p l c w h1 hl' a1

end Term
end Go.Proofs.YtkfkpjngiffamaaGreatDoor
