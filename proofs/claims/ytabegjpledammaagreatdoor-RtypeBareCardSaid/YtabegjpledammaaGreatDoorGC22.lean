/-The walk of the program's Swap of types with regions. (Written by wip/tools/rtswap.py.) -/
import Derived.Test.YtabegjpledammaaGreatDoorGC21
namespace Go.Proofs.YtabegjpledammaaGreatDoor
open Go.RowKit
set_option linter.unusedVariables false
set_option linter.unusedSimpArgs false
namespace Rt
open Effect (At AtOk AtsAt Rd RdI ofA ret_i64 ret_bool lt_of_block heap_alloc_new turnI swapA nget)
open Types (veil veil_to veil_at from_ seen_iff)

theorem seen_start {B M : Nat} {W : World} {qe : Option Addr} {n' c' : Nat} {e2 : List At} (hr : Effect.Row M W (.slice qe n' c') e2) (hM : B ≤ M) (hok : ∀ x ∈ e2, x.x.size ≤ maxLen) {W' : World} (hoth : ∀ b, M ≤ b → W'.heap[b]? = W.heap[b]?) : EffIs (veil (Types.seen B (.slice none 0 0)) W') qe n' c' e2 := by
  refine (eff_of_row hr hok).reads (veil_to fun b hb hp => ?_)
  have hp' : M ≤ b := of_decide_eq_true hp
  exact ⟨seen_iff.2 ⟨by omega, by simp [Value.ownBlock]⟩, hoth b hp'⟩
theorem swap_start1 {w : World} {h : Hd} {pe : Option Addr} {ne ce : Nat} {p : Option Addr} {l c : Nat} {K v : Int} {e2 : List At} {qe : Option Addr} {n' c' M : Nat} {W : World} (hb : Below w.heap.size w W)
    (h0 : W.heap[w.heap.size]? = some (.cells #[.int .u8 h.k, .int .i64 h.r, .slice pe ne ce, .slice p l c] 25 (0, 0))) (h1 : W.heap[w.heap.size + 1]? = some (.cells #[.int .u8 0, .int .i64 0, .slice none 0 0, .slice none 0 0] 25 (0, 0)))
    (h2 : W.heap[w.heap.size + 2]? = some (.cells #[.int .u8 K, .int .i64 v, .slice none 0 0, .slice none 0 0] 25 (0, 0))) (hr : Effect.Row M W (.slice qe n' c') e2) (hM : w.heap.size + 3 ≤ M) (hok : ∀ x ∈ e2, x.x.size ≤ maxLen) :
    SwapAt w h pe ne ce p l c ⟨K, v, e2⟩ qe n' c' [] 0 none 0 (W.setCell ⟨w.heap.size + 2, 2, none⟩ (.slice qe n' c')) := by
  have hoth : ∀ b, b ≠ w.heap.size + 2 → (W.setCell ⟨w.heap.size + 2, 2, none⟩ (.slice qe n' c')).heap[b]? = W.heap[b]? := fun b hb => Below.heap_setCell _ _ _ _ hb
  refine ⟨hb.setCell (p := ⟨w.heap.size + 2, 2, none⟩) (by show w.heap.size ≤ w.heap.size + 2; omega) _, (hoth _ (by omega)).trans h0, (hoth _ (by omega)).trans h1, ?_, RowR.nil _ _, rfl, seen_start hr hM hok fun b hb => hoth b (by omega)⟩
  simp [World.setCell, Array.getElem?_modify, h2]
theorem swap_start2 {w : World} {h : Hd} {pe : Option Addr} {ne ce : Nat} {p : Option Addr} {l c : Nat} {K v r2 : Int} {e2 : List At} {qe : Option Addr} {n' c' M : Nat} {W : World} (hb : Below w.heap.size w W)
    (h0 : W.heap[w.heap.size]? = some (.cells #[.int .u8 h.k, .int .i64 h.r, .slice pe ne ce, .slice p l c] 25 (0, 0))) (h1 : W.heap[w.heap.size + 1]? = some (.cells #[.int .u8 0, .int .i64 0, .slice none 0 0, .slice none 0 0] 25 (0, 0)))
    (h2 : W.heap[w.heap.size + 2]? = some (.cells #[.int .u8 K, .int .i64 v, .slice none 0 0, .slice none 0 0] 25 (0, 0))) (hr : Effect.Row M W (.slice qe n' c') e2) (hM : w.heap.size + 3 ≤ M) (hok : ∀ x ∈ e2, x.x.size ≤ maxLen) :
    SwapAt w h pe ne ce p l c ⟨K, r2, e2⟩ qe n' c' [] 0 none 0 ((W.setCell ⟨w.heap.size + 2, 1, none⟩ (.int .i64 r2)).setCell ⟨w.heap.size + 2, 2, none⟩ (.slice qe n' c')) := by
  have hoth : ∀ b, b ≠ w.heap.size + 2 → ((W.setCell ⟨w.heap.size + 2, 1, none⟩ (.int .i64 r2)).setCell ⟨w.heap.size + 2, 2, none⟩ (.slice qe n' c')).heap[b]? = W.heap[b]? := fun b hb => (Below.heap_setCell _ _ _ _ hb).trans (Below.heap_setCell _ _ _ _ hb)
  refine ⟨(hb.setCell (p := ⟨w.heap.size + 2, 1, none⟩) (by show w.heap.size ≤ w.heap.size + 2; omega) _).setCell (p := ⟨w.heap.size + 2, 2, none⟩) (by show w.heap.size ≤ w.heap.size + 2; omega) _, (hoth _ (by omega)).trans h0, (hoth _ (by omega)).trans h1, ?_, RowR.nil _ _, rfl, seen_start hr hM hok fun b hb => hoth b (by omega)⟩
  simp [World.setCell, Array.getElem?_modify, h2]
def SwapOf (f to : List Int) (m : Nat) : Prop := ∀ (t : RT) (h : Hd) (pe : Option Addr) (ne ce : Nat) (p : Option Addr) (l c : Nat) (nf cf nt ct : Nat) (af at_ : Option Addr) (w : World), wt t ≤ m → wt t ≤ 100000 → RtIs w h pe ne ce p l c t → allT (effB 10000) t = true → RdI w nf af f → RdI w nt at_ to → nf ≤ 10000 → nt ≤ 10000 →
    Calls Tryz.prog 26 #[.agg #[.int .u8 h.k, .int .i64 h.r, .slice pe ne ce, .slice p l c], .slice af nf cf, .slice at_ nt ct] w (SwapEnd (swapH f to h) (swapT f to t) l w)

set_option maxRecDepth 100000 in
set_option maxHeartbeats 12800000 in
theorem swap_walk (f to : List Int) : ∀ m : Nat, SwapOf f to m := by
  intro m
  induction m with
  | zero => intro t h pe ne ce p l c nf cf nt ct af at_ w hm; have := wt_pos t; omega
  | succ m ih =>
    intro t h pe ne ce p l c nf cf nt ct af at_ w hm hmm hT hef hf hto hnf hnt
    obtain ⟨i0, hi0, hz0, hz1, hz2⟩ := info_parts infoRt
    have HI0 := Lib.hid hi0; have HZ0 := Lib.hid hz0; have HZ1 := Lib.hid hz1; have HZ2 := Lib.hid hz2
    have hwt := wt_ks t
    have hll : l ≤ 100000 := by have := wts_len t.ks; rw [hT.len] at this; omega
    have hin := fun W => inRegion_walk h pe ne ce p l c W
    have hef2 := hef
    rw [allT_eq, Bool.and_eq_true, hT.head] at hef2
    have hne : ne ≤ 10000 := by rw [← hT.elen]; exact (eff_iff.1 hef2.1).1
    have hokh := swapH_ok (f := f) hto.ok hT.ok
    have hoke := hT.ok.e
    obtain ⟨k, v, e⟩ := h
    simp only at hin hoke
    have hal := alloc3 w (.cells #[.int .u8 k, .int .i64 v, .slice pe ne ce, .slice p l c] 25) (.cells #[.int .u8 0, .int .i64 0, .slice none 0 0, .slice none 0 0] 25) (.cells #[.int .u8 k, .int .i64 v, .slice none 0 0, .slice none 0 0] 25)
    have IH := Lib.hid ih; have HT := Lib.hid hT; have HM := Lib.hid (And.intro hm hmm); have HWT := Lib.hid hwt; have HEF := Lib.hid hef2.2; have HF := Lib.hid hf; have HTO := Lib.hid hto; have HNF := Lib.hid (And.intro hnf hnt); have HIN := Lib.hid hin; have HAL := Lib.hid hal; have HOE := Lib.hid hoke
    clear ih hT hm hmm hwt hi0 hz0 hz1 hz2 hef hef2 hf hto hin hal hoke
    go_enter Tryz.func26, Tryz.ntmps26
    go_wp2_with (fail)
    refine (HIN.out _).mono ?_
    rintro en w1 ⟨rfl, hb1⟩
    have hsz0 : (((w.alloc (.cells #[.int .u8 k, .int .i64 v, .slice pe ne ce, .slice p l c] 25)).alloc (.cells #[.int .u8 0, .int .i64 0, .slice none 0 0, .slice none 0 0] 25)).alloc (.cells #[.int .u8 k, .int .i64 v, .slice none 0 0, .slice none 0 0] 25)).heap.size = w.heap.size + 3 := by simp
    have hx0 := (hb1.block _ (lt_of_block HAL.out.2.1)).trans HAL.out.2.1
    have hx1 := (hb1.block _ (lt_of_block HAL.out.2.2.1)).trans HAL.out.2.2.1
    have hx2 := (hb1.block _ (lt_of_block HAL.out.2.2.2)).trans HAL.out.2.2.2
    have hbb := below_then HAL.out.1 hb1 HAL.out.1.size
    have hz1 : w.heap.size + 3 ≤ w1.heap.size := by have := hb1.size; omega
    have HX := Lib.hid (And.intro hx0 (And.intro hx1 hx2)); have HBB := Lib.hid hbb; have HZ := Lib.hid hz1
    clear hx0 hx1 hx2 hbb hz1 hb1 hsz0 HAL
    by_cases hk : k = 1
    · subst hk
      rw [show decide ((1 : Int) ≠ 1) = false from by decide]
      have hhd : swapH f to ⟨1, v, e⟩ = ⟨1, v, e⟩ := by unfold swapH; rw [if_pos rfl]
      rw [hhd] at hokh
      have HHD := Lib.hid hhd; have HOKH := Lib.hid hokh
      have hcl := Effect.clone_walk (c := ce) (HT.out.eff.below HBB.out).rd (by omega)
      have HCL := Lib.hid hcl
      obtain ⟨⟨b0, b1, b2, b3⟩, -⟩ := cells4 HX.out.1
      clear hcl hhd hokh
      go_wp2_with (fail)
      refine HCL.out.mono ?_
      rintro en w3 ⟨qe, n2, ce2, rfl, hn2, hr3, hb3⟩
      have hy0 := (hb3.block _ (lt_of_block HX.out.1)).trans HX.out.1
      have hy1 := (hb3.block _ (lt_of_block HX.out.2.1)).trans HX.out.2.1
      have hy2 := (hb3.block _ (lt_of_block HX.out.2.2)).trans HX.out.2.2
      have hst := swap_start1 (K := 1) (v := v) (h := ⟨1, v, e⟩) (below_then HBB.out hb3 HBB.out.size) hy0 hy1 hy2 hr3 HZ.out (ok_rd HOE.out)
      obtain ⟨⟨d0, d1, d2, d3⟩, e0, e1, e2', e3⟩ := cells4 hy2
      have HY := Lib.hid hy0
      have HST := Lib.hid hst
      clear hy0 hy1 hy2 hst hr3 hb3 b0 b1 b2 b3
      obtain ⟨⟨a0, a1, a2, a3⟩, -⟩ := cells4 HST.out.box
      go_wp2_with (fail)
      go_loopw [36] (fun i wr => ∃ (j : Nat) (a : Option Addr) (c0 : Nat), j ≤ l ∧ i = .int .i64 j ∧ Hid (SwapAt w ⟨1, v, e⟩ pe ne ce p l c ⟨1, v, e⟩ qe n2 ce2 (swapK f to (t.ks.take j)) j a c0 wr)) (fun i _ => l - (intOf i).toNat)
      case atStart => exact ⟨0, none, 0, Nat.zero_le _, rfl, Lib.hid (by rw [List.take_zero]; exact HST.out)⟩
      case round =>
        obtain ⟨j, a, c0, hj, rfl, HA⟩ := hrel
        obtain ⟨⟨t0, t1, t2, t3⟩, -⟩ := cells4 HA.out.box
        obtain ⟨⟨o0, o1, o2, o3⟩, _, _, _, f3⟩ := cells4 HA.out.out
        by_cases hlt : j < l
        · have hjk : j < t.ks.length := by rw [HT.out.len]; exact hlt
          obtain ⟨bb, o, q, c', qk, ck', rfl, hkid0, z0, z1, z2, z3⟩ := (HT.out.kids.stay HA.out.below).get j hjk
          have hwk := wts_get hjk
          have hll2 := lt_of_block HA.out.out
          have hcall := IH.out (tget t.ks j) (tget t.ks j).h qk (tget t.ks j).h.e.length ck' q (tget t.ks j).ks.length c' nf cf nt ct af at_ (wr.alloc (.cells #[.int .u8 (tget t.ks j).h.k, .int .i64 (tget t.ks j).h.r, .slice qk (tget t.ks j).h.e.length ck', .slice q (tget t.ks j).ks.length c'] 25)).drew (by have := HM.out.1; have := HWT.out; omega) (by have := HM.out.2; have := HWT.out; omega) ((hkid0.below (box_new _)).below (Below.refl _ _).drew) (allK_get _ hjk HEF.out) (((HF.out.below HA.out.below).below (box_new _)).below (Below.refl _ _).drew) (((HTO.out.below HA.out.below).below (box_new _)).below (Below.refl _ _).drew) HNF.out.1 HNF.out.2
          obtain ⟨xs, hown, hflat⟩ := HA.out.row
          have hown' : wr.ownsRow (w.heap.size + 3) 25 4 (.slice a j c0) j xs := by rw [HA.out.len] at hown; exact hown
          have hrow := fun (W' : World) (hb : Below wr.heap.size wr W') (O : Obj) => (show (W'.alloc O).ownsRow (w.heap.size + 3) 25 4 (.slice a j c0) j xs ∧ Flat (veil (Types.seen (w.heap.size + 3) (.slice a j c0)) (W'.alloc O)) xs (swapK f to (t.ks.take j)) from
            ⟨own_belowR hown' (hb.alloc hb.size O), hflat.reads (veil_to fun b hbl hp => ⟨hp, (hb.alloc hb.size O).block b hbl⟩)⟩)
          have htk := take_tget t.ks j hjk
          have hbk := fun (W' : World) (hb : Below wr.heap.size wr W') => (show W'.cell? ⟨w.heap.size + 2, 3, none⟩ = some (.slice a j c0) ∧ W'.frozen? ⟨w.heap.size + 2, 3, none⟩ = false ∧ w.heap.size + 2 < W'.heap.size from by
            have := (hb.block _ (lt_of_block HA.out.out)).trans HA.out.out
            exact ⟨by simp [World.cell?, this], by simp [World.frozen?, this], lt_of_block this⟩)
          have HCALL := Lib.hid hcall; have HROW := Lib.hid hrow; have HTK := Lib.hid htk; have HBK := Lib.hid hbk
          have HL2 := Lib.hid hll2
          have j0 : (0 : Int) ≤ (j : Int) := by omega
          have j1 : (j : Int) < (l : Int) := by omega
          clear hcall hrow htk hbk hwk hkid0 hown hown' hflat hjk hll2
          have u0 := (HBK.out (wr.alloc (.cells #[.int .u8 (tget t.ks j).h.k, .int .i64 (tget t.ks j).h.r, .slice qk (tget t.ks j).h.e.length ck', .slice q (tget t.ks j).ks.length c'] 25)) (box_new _)).1
          have u1 := (HBK.out (wr.alloc (.cells #[.int .u8 (tget t.ks j).h.k, .int .i64 (tget t.ks j).h.r, .slice qk (tget t.ks j).h.e.length ck', .slice q (tget t.ks j).ks.length c'] 25)) (box_new _)).2.1
          have u2 := (HBK.out (wr.alloc (.cells #[.int .u8 (tget t.ks j).h.k, .int .i64 (tget t.ks j).h.r, .slice qk (tget t.ks j).h.e.length ck', .slice q (tget t.ks j).ks.length c'] 25)) (box_new _)).2.2
          have hbx : Below wr.heap.size wr (wr.alloc (.cells #[.int .u8 (tget t.ks j).h.k, .int .i64 (tget t.ks j).h.r, .slice qk (tget t.ks j).h.e.length ck', .slice q (tget t.ks j).ks.length c'] 25)) := box_new _
          have HBX := Lib.hid hbx
          obtain ⟨x0, x1, x2, x3⟩ := box4 (N := wr.heap.size) rfl (Below.refl (wr.alloc (.cells #[.int .u8 (tget t.ks j).h.k, .int .i64 (tget t.ks j).h.r, .slice qk (tget t.ks j).h.e.length ck', .slice q (tget t.ks j).ks.length c'] 25)).heap.size (wr.alloc (.cells #[.int .u8 (tget t.ks j).h.k, .int .i64 (tget t.ks j).h.r, .slice qk (tget t.ks j).h.e.length ck', .slice q (tget t.ks j).ks.length c'] 25)))
          clear hbx
          go_upto_region 8 with (fail)
          generalize hw9 : wr.alloc (.cells #[.int .u8 (tget t.ks j).h.k, .int .i64 (tget t.ks j).h.r, .slice qk (tget t.ks j).h.e.length ck', .slice q (tget t.ks j).ks.length c'] 25) = w9 at *
          clear z0 z1 z2 z3 t0 t1 t2 t3 o0 o1 o2 o3 f3 hw9
          go_region_law (first
            | (go_simp; go_at_call 26; (with_reducible refine HCALL.out.mono ?_); rintro en w2 ⟨qk2, ck2, q2, c2, rfl, hT2, hb2d⟩; have hb2 : Below wr.heap.size wr w2 := below_then HBX.out (undrew' hb2d) HBX.out.size; have hm2 : wr.heap.size ≤ w9.drew.heap.size := HBX.out.size; obtain ⟨y0, y1, y2⟩ := HBK.out w2 hb2; have HT2 := Lib.hid hT2; have HB2 := Lib.hid hb2; have HM2 := Lib.hid hm2; clear hT2 hb2 hb2d hm2)
            | (obtain ⟨hr1, hr2⟩ := HROW.out w2 HB2.out (.cells #[.int .u8 (swapH f to (tget t.ks j).h).k, .int .i64 (swapH f to (tget t.ks j).h).r, .slice qk2 (swapH f to (tget t.ks j).h).e.length ck2, .slice q2 (tget t.ks j).ks.length c2] 25); have HR2 := Lib.hid hr2; refine step_append_lies _ (by rfl) _ _ _ (by rfl) (w.heap.size + 3) 25 i0 _ 4 64 Tryz.underlying23 HI0.out HZ0.out HZ1.out HZ2.out rfl (by omega) (.slice a j c0) j xs (by rfl) hr1 ⟨w2.heap.size, 0, none⟩ 1 1 (rcells (swapH f to (tget t.ks j).h) qk2 (swapH f to (tget t.ks j).h).e.length ck2 q2 (tget t.ks j).ks.length c2) (by rfl) (by rfl) (new4 rfl) (cells_oneR _ _ _ _ _ _ _) (by omega) (by unfold maxLen; omega) (by omega) (by have := HB2.out.size; have := HL2.out; simp; omega) (w2.heap.size + 1) (by simp) ?_; intro gg cap w3' hown3 hgrow3 hat3 hlt3; obtain ⟨⟨s0, s1⟩, s2⟩ := swap_step HA.out HB2.out hr1 HR2.out HT2.out HM2.out hown3 hgrow3 (told_of hat3); have HS2 := Lib.hid s2; clear hown3 hgrow3 hat3 hlt3 hr1 hr2 s2 y0 y1 y2))
          all_goals
            go_wp2_with (fail)
            go_roundw
            case rel => exact ⟨j + 1, some ⟨gg, 0, none⟩, cap, by omega, by go_num, Lib.hid (by rw [HTK.out, swapK_snoc]; exact HS2.out)⟩
            case measure => simp [intOf]; omega
        · obtain rfl : j = l := by omega
          obtain ⟨⟨r0, r1, r3, r4⟩, g0, g1, g2, g3⟩ := cells4 HA.out.res
          have hk := List.take_of_length_le (l := t.ks) (i := j) (by rw [HT.out.len]; exact Nat.le_refl _)
          have HKK := Lib.hid hk
          clear hk
          go_wp2_with (fail)
          refine bodyPost_ret (v := .agg #[.int .u8 1, .int .i64 v, .slice qe n2 ce2, .slice a j c0]) (by simp [results, Tryz.results26, go_sem, r0, r1, r3, r4]) rfl ?_
          have ha := HA.out
          rw [HKK.out] at ha
          have hfin := swap_end HOKH.out ha (fun b hb => set4_other _ _ (.int .u8 1) (.int .i64 v) (.slice qe n2 ce2) (.slice a j c0) hb) (ha.below.trans ((set4_below _ _ _ _ (Nat.le_refl _)).mono (by omega)))
          rw [HHD.out, swapT_eq, HT.out.head, HHD.out]
          exact hfin

    · rw [show decide (k ≠ 1) = true from decide_eq_true hk]
      have hhd : swapH f to ⟨k, v, e⟩ = ⟨k, turnI v f to, ofA ((ofA e).map (swapA f to))⟩ := by unfold swapH; rw [if_neg hk]
      have hsw1 := swapped_walk (x := v) (cf := cf) (ct := ct) (w := w1.drew) ((HF.out.below HBB.out).below (Below.refl _ _).drew) ((HTO.out.below HBB.out).below (Below.refl _ _).drew) (by omega) (by omega)
      have hsw2 := Effect.swapRow_walk (c := ce) (cf := cf) (ct := ct) (w := w1.drew) (((HT.out.eff.below HBB.out).below (Below.refl _ _).drew)).rd ((HF.out.below HBB.out).below (Below.refl _ _).drew) ((HTO.out.below HBB.out).below (Below.refl _ _).drew) (by omega) hnf hnt
      rw [hhd] at hokh
      have hoks := hokh.e
      simp only at hoks hsw2
      generalize turnI v f to = r2 at *
      generalize ofA ((ofA e).map (swapA f to)) = f2 at *
      have HHD := Lib.hid hhd; have HOKH := Lib.hid hokh; have HS1 := Lib.hid hsw1; have HS2 := Lib.hid hsw2; have HOS := Lib.hid hoks
      clear hhd hokh hsw1 hsw2 hk hoks
      go_upto_region 3 with (fail)
      refine wp_region_held_drew (S := fun (V : World) => V.heap[w.heap.size]? = w1.heap[w.heap.size]? ∧ True) (by kernel_rfl) ⟨rfl, trivial⟩ (fun hHeld => ?_)
      refine wpAnyH_take (i := 0) (v := .pointer (some ⟨w.heap.size, 1, none⟩)) rfl (by kernel_rfl) (by kernel_rfl) (by kernel_rfl) (fun _ _ _ h => h) (Or.inl ⟨by rfl, ?_⟩) (by assumption) ?_
      · intro w' hSw
        first | (go_simp; done) | (go_simp; intro h0; omega) | rfl
      try simp only [Act.put, List.getElem_toArray, List.getElem_cons_succ, List.getElem_cons_zero, List.setIfInBounds_toArray, List.set_cons_zero, List.set_cons_succ]
      refine wpAnyH_take (i := 1) (v := .int .i64 v) rfl (by kernel_rfl) (by kernel_rfl) (by kernel_rfl) (fun _ _ _ h => h) (Or.inl ⟨by rfl, ?_⟩) (by assumption) ?_
      · intro w' hSw
        obtain ⟨⟨y0, y1, y2, y3⟩, -⟩ := cells4 (hSw.1.trans HX.out.1)
        first | (go_simp; done) | (go_simp; intro h0; omega) | rfl
      try simp only [Act.put, List.getElem_toArray, List.getElem_cons_succ, List.getElem_cons_zero, List.setIfInBounds_toArray, List.set_cons_zero, List.set_cons_succ]
      refine wpAnyH_take (i := 2) (v := .slice af nf cf) rfl (by kernel_rfl) (by kernel_rfl) (by kernel_rfl) (fun _ _ _ h => h) (Or.inl ⟨by rfl, ?_⟩) (by assumption) ?_
      · intro w' hSw
        first | (go_simp; done) | (go_simp; intro h0; omega) | rfl
      try simp only [Act.put, List.getElem_toArray, List.getElem_cons_succ, List.getElem_cons_zero, List.setIfInBounds_toArray, List.set_cons_zero, List.set_cons_succ]
      refine wpAnyH_take (i := 3) (v := .slice at_ nt ct) rfl (by kernel_rfl) (by kernel_rfl) (by kernel_rfl) (fun _ _ _ h => h) (Or.inl ⟨by rfl, ?_⟩) (by assumption) ?_
      · intro w' hSw
        first | (go_simp; done) | (go_simp; intro h0; omega) | rfl
      try simp only [Act.put, List.getElem_toArray, List.getElem_cons_succ, List.getElem_cons_zero, List.setIfInBounds_toArray, List.set_cons_zero, List.set_cons_succ]
      refine wpAnyH_take (i := 5) (v := .pointer (some ⟨w.heap.size, 2, none⟩)) rfl (by kernel_rfl) (by kernel_rfl) (by kernel_rfl) (fun _ _ _ h => h) (Or.inl ⟨by rfl, ?_⟩) (by assumption) ?_
      · intro w' hSw
        first | (go_simp; done) | (go_simp; intro h0; omega) | rfl
      try simp only [Act.put, List.getElem_toArray, List.getElem_cons_succ, List.getElem_cons_zero, List.setIfInBounds_toArray, List.set_cons_zero, List.set_cons_succ]
      refine wpAnyH_take (i := 6) (v := .slice pe ne ce) rfl (by kernel_rfl) (by kernel_rfl) (by kernel_rfl) (fun _ _ _ h => h) (Or.inl ⟨by rfl, ?_⟩) (by assumption) ?_
      · intro w' hSw
        obtain ⟨⟨y0, y1, y2, y3⟩, -⟩ := cells4 (hSw.1.trans HX.out.1)
        first | (go_simp; done) | (go_simp; intro h0; omega) | rfl
      try simp only [Act.put, List.getElem_toArray, List.getElem_cons_succ, List.getElem_cons_zero, List.setIfInBounds_toArray, List.set_cons_zero, List.set_cons_succ]
      refine wpAnyH_take (i := 7) (v := .slice af nf cf) rfl (by kernel_rfl) (by kernel_rfl) (by kernel_rfl) (fun _ _ _ h => h) (Or.inl ⟨by rfl, ?_⟩) (by assumption) ?_
      · intro w' hSw
        first | (go_simp; done) | (go_simp; intro h0; omega) | rfl
      try simp only [Act.put, List.getElem_toArray, List.getElem_cons_succ, List.getElem_cons_zero, List.setIfInBounds_toArray, List.set_cons_zero, List.set_cons_succ]
      refine wpAnyH_take (i := 8) (v := .slice at_ nt ct) rfl (by kernel_rfl) (by kernel_rfl) (by kernel_rfl) (fun _ _ _ h => h) (Or.inl ⟨by rfl, ?_⟩) (by assumption) ?_
      · intro w' hSw
        first | (go_simp; done) | (go_simp; intro h0; omega) | rfl
      try simp only [Act.put, List.getElem_toArray, List.getElem_cons_succ, List.getElem_cons_zero, List.setIfInBounds_toArray, List.set_cons_zero, List.set_cons_succ]
      refine wpAnyH_ready (rs := [4]) (by kernel_rfl) (by simp) ?_
      refine AllReadyH.cons rfl (fun K hK => ?_) AllReadyH.nil
      have HK2 := Lib.hid hK
      clear hK
      try rw [if_pos (by rfl)]
      go_simp
      refine HS1.out.mono ?_
      rintro en w2 ⟨rfl, rfl⟩
      refine HK2.out _ _ ⟨rfl, trivial⟩ (fun hHeld => ?_)
      clear HK2
      try simp only [Act.put, List.getElem_toArray, List.getElem_cons_succ, List.getElem_cons_zero, List.setIfInBounds_toArray, List.set_cons_zero, List.set_cons_succ]
      clear K
      refine wpAnyH_take (i := 10) (v := .pointer (some ⟨w.heap.size + 2, 1, none⟩)) rfl (by kernel_rfl) (by kernel_rfl) (by kernel_rfl) (fun _ _ _ h => h) (Or.inl ⟨by rfl, ?_⟩) (by assumption) ?_
      · intro w' hSw
        first | (go_simp; done) | (go_simp; intro h0; omega) | rfl
      try simp only [Act.put, List.getElem_toArray, List.getElem_cons_succ, List.getElem_cons_zero, List.setIfInBounds_toArray, List.set_cons_zero, List.set_cons_succ]
      refine wpAnyH_ready (rs := [9]) (by kernel_rfl) (by simp) ?_
      refine AllReadyH.cons rfl (fun K hK => ?_) AllReadyH.nil
      have HK2 := Lib.hid hK
      clear hK
      try rw [if_pos (by rfl)]
      go_simp
      refine HS2.out.mono ?_
      rintro en w3 ⟨qe, n2, ce2, rfl, hn2, hr3, -, hb3⟩
      replace hb3 : Below w1.heap.size w1 w3 := undrew' hb3
      have hy0 := (hb3.block _ (lt_of_block HX.out.1)).trans HX.out.1
      have hy1 := (hb3.block _ (lt_of_block HX.out.2.1)).trans HX.out.2.1
      have hy2 := (hb3.block _ (lt_of_block HX.out.2.2)).trans HX.out.2.2
      have hst := swap_start2 (K := k) (v := v) (r2 := r2) (h := ⟨k, v, e⟩) (below_then HBB.out hb3 HBB.out.size) hy0 hy1 hy2 hr3 HZ.out (ok_rd HOS.out)
      have HST := Lib.hid hst; have HY := Lib.hid hy0; have HY2 := Lib.hid hy2
      clear hy0 hy1 hy2 hst hr3 hb3 HS1 HS2
      refine HK2.out _ _ ⟨HY.out.trans HX.out.1.symm, trivial⟩ (fun hHeld => ?_)
      clear HK2
      try simp only [Act.put, List.getElem_toArray, List.getElem_cons_succ, List.getElem_cons_zero, List.setIfInBounds_toArray, List.set_cons_zero, List.set_cons_succ]
      clear K
      obtain ⟨⟨d0, d1, d2, d3⟩, e0, e1, e2', e3⟩ := cells4 HY2.out
      refine wpAnyH_ready (rs := [11]) (by kernel_rfl) (by simp) ?_
      refine AllReadyH.cons rfl (fun K hK => ?_) AllReadyH.nil
      have HK2 := Lib.hid hK
      clear hK
      try rw [if_pos (by rfl)]
      go_simp
      refine HK2.out _ _ ⟨(Below.heap_setCell _ _ _ _ (by show w.heap.size ≠ w.heap.size + 2; omega)).trans (HY.out.trans HX.out.1.symm), trivial⟩ (fun hHeld => ?_)
      clear HK2
      try simp only [Act.put, List.getElem_toArray, List.getElem_cons_succ, List.getElem_cons_zero, List.setIfInBounds_toArray, List.set_cons_zero, List.set_cons_succ]
      clear K
      have d2' : (w3.setCell ⟨w.heap.size + 2, 1, none⟩ (.int .i64 r2)).cell? ⟨w.heap.size + 2, 2, none⟩ = some (.slice none 0 0) := by simp [World.setCell, World.cell?, Array.getElem?_modify, HY2.out]
      have e2'' : (w3.setCell ⟨w.heap.size + 2, 1, none⟩ (.int .i64 r2)).frozen? ⟨w.heap.size + 2, 2, none⟩ = false := by simp [World.setCell, World.frozen?, Array.getElem?_modify, HY2.out]
      refine wpAnyH_take (i := 12) (v := .pointer (some ⟨w.heap.size + 2, 2, none⟩)) rfl (by kernel_rfl) (by kernel_rfl) (by kernel_rfl) (fun _ _ _ h => h) (Or.inl ⟨by rfl, ?_⟩) (by assumption) ?_
      · intro w' hSw
        first | (go_simp; done) | (go_simp; intro h0; omega) | rfl
      try simp only [Act.put, List.getElem_toArray, List.getElem_cons_succ, List.getElem_cons_zero, List.setIfInBounds_toArray, List.set_cons_zero, List.set_cons_succ]
      refine wpAnyH_ready (rs := [13]) (by kernel_rfl) (by simp) ?_
      refine AllReadyH.cons rfl (fun K hK => ?_) AllReadyH.nil
      have HK2 := Lib.hid hK
      clear hK
      try rw [if_pos (by rfl)]
      go_simp
      refine HK2.out _ _ ⟨(Below.heap_setCell _ _ _ _ (by show w.heap.size ≠ w.heap.size + 2; omega)).trans ((Below.heap_setCell _ _ _ _ (by show w.heap.size ≠ w.heap.size + 2; omega)).trans (HY.out.trans HX.out.1.symm)), trivial⟩ (fun hHeld => ?_)
      clear HK2
      try simp only [Act.put, List.getElem_toArray, List.getElem_cons_succ, List.getElem_cons_zero, List.setIfInBounds_toArray, List.set_cons_zero, List.set_cons_succ]
      clear K
      refine wpAnyH_done (by kernel_rfl) ?_ _
      clear hHeld
      obtain ⟨⟨a0, a1, a2, a3⟩, -⟩ := cells4 HST.out.box
      go_wp2_with (fail)
      go_loopw [36] (fun i wr => ∃ (j : Nat) (a : Option Addr) (c0 : Nat), j ≤ l ∧ i = .int .i64 j ∧ Hid (SwapAt w ⟨k, v, e⟩ pe ne ce p l c ⟨k, r2, f2⟩ qe n2 ce2 (swapK f to (t.ks.take j)) j a c0 wr)) (fun i _ => l - (intOf i).toNat)
      case atStart => exact ⟨0, none, 0, Nat.zero_le _, rfl, Lib.hid (by rw [List.take_zero]; exact HST.out)⟩
      case round =>
        obtain ⟨j, a, c0, hj, rfl, HA⟩ := hrel
        obtain ⟨⟨t0, t1, t2, t3⟩, -⟩ := cells4 HA.out.box
        obtain ⟨⟨o0, o1, o2, o3⟩, _, _, _, f3⟩ := cells4 HA.out.out
        by_cases hlt : j < l
        · have hjk : j < t.ks.length := by rw [HT.out.len]; exact hlt
          obtain ⟨bb, o, q, c', qk, ck', rfl, hkid0, z0, z1, z2, z3⟩ := (HT.out.kids.stay HA.out.below).get j hjk
          have hwk := wts_get hjk
          have hll2 := lt_of_block HA.out.out
          have hcall := IH.out (tget t.ks j) (tget t.ks j).h qk (tget t.ks j).h.e.length ck' q (tget t.ks j).ks.length c' nf cf nt ct af at_ (wr.alloc (.cells #[.int .u8 (tget t.ks j).h.k, .int .i64 (tget t.ks j).h.r, .slice qk (tget t.ks j).h.e.length ck', .slice q (tget t.ks j).ks.length c'] 25)).drew (by have := HM.out.1; have := HWT.out; omega) (by have := HM.out.2; have := HWT.out; omega) ((hkid0.below (box_new _)).below (Below.refl _ _).drew) (allK_get _ hjk HEF.out) (((HF.out.below HA.out.below).below (box_new _)).below (Below.refl _ _).drew) (((HTO.out.below HA.out.below).below (box_new _)).below (Below.refl _ _).drew) HNF.out.1 HNF.out.2
          obtain ⟨xs, hown, hflat⟩ := HA.out.row
          have hown' : wr.ownsRow (w.heap.size + 3) 25 4 (.slice a j c0) j xs := by rw [HA.out.len] at hown; exact hown
          have hrow := fun (W' : World) (hb : Below wr.heap.size wr W') (O : Obj) => (show (W'.alloc O).ownsRow (w.heap.size + 3) 25 4 (.slice a j c0) j xs ∧ Flat (veil (Types.seen (w.heap.size + 3) (.slice a j c0)) (W'.alloc O)) xs (swapK f to (t.ks.take j)) from
            ⟨own_belowR hown' (hb.alloc hb.size O), hflat.reads (veil_to fun b hbl hp => ⟨hp, (hb.alloc hb.size O).block b hbl⟩)⟩)
          have htk := take_tget t.ks j hjk
          have hbk := fun (W' : World) (hb : Below wr.heap.size wr W') => (show W'.cell? ⟨w.heap.size + 2, 3, none⟩ = some (.slice a j c0) ∧ W'.frozen? ⟨w.heap.size + 2, 3, none⟩ = false ∧ w.heap.size + 2 < W'.heap.size from by
            have := (hb.block _ (lt_of_block HA.out.out)).trans HA.out.out
            exact ⟨by simp [World.cell?, this], by simp [World.frozen?, this], lt_of_block this⟩)
          have HCALL := Lib.hid hcall; have HROW := Lib.hid hrow; have HTK := Lib.hid htk; have HBK := Lib.hid hbk
          have HL2 := Lib.hid hll2
          have j0 : (0 : Int) ≤ (j : Int) := by omega
          have j1 : (j : Int) < (l : Int) := by omega
          clear hcall hrow htk hbk hwk hkid0 hown hown' hflat hjk hll2
          have u0 := (HBK.out (wr.alloc (.cells #[.int .u8 (tget t.ks j).h.k, .int .i64 (tget t.ks j).h.r, .slice qk (tget t.ks j).h.e.length ck', .slice q (tget t.ks j).ks.length c'] 25)) (box_new _)).1
          have u1 := (HBK.out (wr.alloc (.cells #[.int .u8 (tget t.ks j).h.k, .int .i64 (tget t.ks j).h.r, .slice qk (tget t.ks j).h.e.length ck', .slice q (tget t.ks j).ks.length c'] 25)) (box_new _)).2.1
          have u2 := (HBK.out (wr.alloc (.cells #[.int .u8 (tget t.ks j).h.k, .int .i64 (tget t.ks j).h.r, .slice qk (tget t.ks j).h.e.length ck', .slice q (tget t.ks j).ks.length c'] 25)) (box_new _)).2.2
          have hbx : Below wr.heap.size wr (wr.alloc (.cells #[.int .u8 (tget t.ks j).h.k, .int .i64 (tget t.ks j).h.r, .slice qk (tget t.ks j).h.e.length ck', .slice q (tget t.ks j).ks.length c'] 25)) := box_new _
          have HBX := Lib.hid hbx
          obtain ⟨x0, x1, x2, x3⟩ := box4 (N := wr.heap.size) rfl (Below.refl (wr.alloc (.cells #[.int .u8 (tget t.ks j).h.k, .int .i64 (tget t.ks j).h.r, .slice qk (tget t.ks j).h.e.length ck', .slice q (tget t.ks j).ks.length c'] 25)).heap.size (wr.alloc (.cells #[.int .u8 (tget t.ks j).h.k, .int .i64 (tget t.ks j).h.r, .slice qk (tget t.ks j).h.e.length ck', .slice q (tget t.ks j).ks.length c'] 25)))
          clear hbx
          go_upto_region 8 with (fail)
          generalize hw9 : wr.alloc (.cells #[.int .u8 (tget t.ks j).h.k, .int .i64 (tget t.ks j).h.r, .slice qk (tget t.ks j).h.e.length ck', .slice q (tget t.ks j).ks.length c'] 25) = w9 at *
          clear z0 z1 z2 z3 t0 t1 t2 t3 o0 o1 o2 o3 f3 hw9
          go_region_law (first
            | (go_simp; go_at_call 26; (with_reducible refine HCALL.out.mono ?_); rintro en w2 ⟨qk2, ck2, q2, c2, rfl, hT2, hb2d⟩; have hb2 : Below wr.heap.size wr w2 := below_then HBX.out (undrew' hb2d) HBX.out.size; have hm2 : wr.heap.size ≤ w9.drew.heap.size := HBX.out.size; obtain ⟨y0, y1, y2⟩ := HBK.out w2 hb2; have HT2 := Lib.hid hT2; have HB2 := Lib.hid hb2; have HM2 := Lib.hid hm2; clear hT2 hb2 hb2d hm2)
            | (obtain ⟨hr1, hr2⟩ := HROW.out w2 HB2.out (.cells #[.int .u8 (swapH f to (tget t.ks j).h).k, .int .i64 (swapH f to (tget t.ks j).h).r, .slice qk2 (swapH f to (tget t.ks j).h).e.length ck2, .slice q2 (tget t.ks j).ks.length c2] 25); have HR2 := Lib.hid hr2; refine step_append_lies _ (by rfl) _ _ _ (by rfl) (w.heap.size + 3) 25 i0 _ 4 64 Tryz.underlying23 HI0.out HZ0.out HZ1.out HZ2.out rfl (by omega) (.slice a j c0) j xs (by rfl) hr1 ⟨w2.heap.size, 0, none⟩ 1 1 (rcells (swapH f to (tget t.ks j).h) qk2 (swapH f to (tget t.ks j).h).e.length ck2 q2 (tget t.ks j).ks.length c2) (by rfl) (by rfl) (new4 rfl) (cells_oneR _ _ _ _ _ _ _) (by omega) (by unfold maxLen; omega) (by omega) (by have := HB2.out.size; have := HL2.out; simp; omega) (w2.heap.size + 1) (by simp) ?_; intro gg cap w3' hown3 hgrow3 hat3 hlt3; obtain ⟨⟨s0, s1⟩, s2⟩ := swap_step HA.out HB2.out hr1 HR2.out HT2.out HM2.out hown3 hgrow3 (told_of hat3); have HS2 := Lib.hid s2; clear hown3 hgrow3 hat3 hlt3 hr1 hr2 s2 y0 y1 y2))
          all_goals
            go_wp2_with (fail)
            go_roundw
            case rel => exact ⟨j + 1, some ⟨gg, 0, none⟩, cap, by omega, by go_num, Lib.hid (by rw [HTK.out, swapK_snoc]; exact HS2.out)⟩
            case measure => simp [intOf]; omega
        · obtain rfl : j = l := by omega
          obtain ⟨⟨r0, r1, r3, r4⟩, g0, g1, g2, g3⟩ := cells4 HA.out.res
          have hk := List.take_of_length_le (l := t.ks) (i := j) (by rw [HT.out.len]; exact Nat.le_refl _)
          have HKK := Lib.hid hk
          clear hk
          go_wp2_with (fail)
          refine bodyPost_ret (v := .agg #[.int .u8 k, .int .i64 r2, .slice qe n2 ce2, .slice a j c0]) (by simp [results, Tryz.results26, go_sem, r0, r1, r3, r4]) rfl ?_
          have ha := HA.out
          rw [HKK.out] at ha
          have hfin := swap_end HOKH.out ha (fun b hb => set4_other _ _ (.int .u8 k) (.int .i64 r2) (.slice qe n2 ce2) (.slice a j c0) hb) (ha.below.trans ((set4_below _ _ _ _ (Nat.le_refl _)).mono (by omega)))
          rw [HHD.out, swapT_eq, HT.out.head, HHD.out]
          exact hfin
end Rt
end Go.Proofs.YtabegjpledammaaGreatDoor
