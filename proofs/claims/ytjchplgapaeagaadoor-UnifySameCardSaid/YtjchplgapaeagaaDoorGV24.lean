/-The program's whole: a type in new memory, with what stands for a trial's own variables in their places. (Written by wip/tools/unwhole.py.) -/
import Derived.Test.YtjchplgapaeagaaDoorGV19
namespace Go.Proofs.YtjchplgapaeagaaDoor
open Go.RowKit
set_option linter.unusedVariables false
set_option linter.unusedSimpArgs false
namespace Types

def WhEnd (P : Nat → Bool) (k : Bk) (u : Up) (n : Nat) (g : Nat → Bool) (nm : Nat → Nat) (st : Nat → Option Ty) (T : Ty) (w : World) (en : Ending) (w' : World) : Prop :=
  ∃ (h : Hd) (q : Option Addr) (l c : Nat) (e' : Nat → Option Ty), en = .returned (.agg #[.int .u8 h.k, .int .i64 h.v, .slice q l c]) ∧ TyIs (veil (from_ w.heap.size) w') h q l c T ∧ TBk P w' k u n e' g ∧ Rep (cmb u e') nm st ∧ Kp (fun b => decide (b ≠ k.s)) w w'
theorem map_take_tget {f : Ty → Ty} {ts : List Ty} {j : Nat} (h : j < ts.length) : (ts.take (j + 1)).map f = (ts.take j).map f ++ [f (tget ts j)] := by
  rw [take_tget ts j h, List.map_append]; rfl
set_option maxRecDepth 100000 in
set_option maxHeartbeats 12800000 in
theorem whole_body (P : Nat → Bool) (k k0 : Bk) (n0 : Nat) (e0 : Nat → Option Ty) (n : Nat) (g : Nat → Bool) (nm : Nat → Nat) (st : Nat → Option Ty) (r : Nat → Nat) (t : Ty)
    (hac : ∀ v t, st v = some t → ∀ w ∈ varsT t, r (nm w) < r v) (hno : t.h.k = 5 → n0 ≤ nm t.h.v.toNat → ∃ s, st (nm t.h.v.toNat) = some s) (hmay : mayT t = true) (hvs : ∀ w ∈ varsT t, w < n)
    (ih : ∀ t', (t' = t ∧ t.h.k ≠ 5 ∨ (t.h.k = 5 ∧ st (nm t.h.v.toNat) = some t')) → ∀ s ∈ t'.ks, ∀ (e : Nat → Option Ty) (h : Hd) (p : Option Addr) (l c : Nat) (w : World), TBk P w k (some (k0, n0, e0)) n e g → Rep (cmb (some (k0, n0, e0)) e) nm st → TyIs (veil P w) h p l c s → (∀ b, w.heap.size ≤ b → P b = false) →
      Calls Tryd.prog 61 #[.pointer (some ⟨k.b, 0, none⟩), .agg #[.int .u8 h.k, .int .i64 h.v, .slice p l c]] w (WhEnd P k (some (k0, n0, e0)) n g nm st (inst (om n0 nm st r) s) w))
    (e : Nat → Option Ty) (h : Hd) (p : Option Addr) (l c : Nat) (w : World) (hT : TBk P w k (some (k0, n0, e0)) n e g) (hR : Rep (cmb (some (k0, n0, e0)) e) nm st) (hTy : TyIs (veil P w) h p l c t) (hP : ∀ b, w.heap.size ≤ b → P b = false) :
    Calls Tryd.prog 61 #[.pointer (some ⟨k.b, 0, none⟩), .agg #[.int .u8 h.k, .int .i64 h.v, .slice p l c]] w (WhEnd P k (some (k0, n0, e0)) n g nm st (inst (om n0 nm st r) t) w) := by
  obtain ⟨i0, hi, hz0, hz1, hz2⟩ := info_parts infoType
  have HI := Lib.hid hi; have HZ0 := Lib.hid hz0; have HZ1 := Lib.hid hz1; have HZ2 := Lib.hid hz2
  have hks : k.s < w.heap.size := hT.me.st.lt
  have hb1 := al_new (W := w) (.cells #[.int .u8 h.k, .int .i64 h.v, .slice p l c] 25)
  have z1 : (w.alloc (.cells #[.int .u8 h.k, .int .i64 h.v, .slice p l c] 25)).heap.size = w.heap.size + 1 := by simp
  have hb2 := al_new (W := w.alloc (.cells #[.int .u8 h.k, .int .i64 h.v, .slice p l c] 25)) (.cells #[.int .u8 0, .int .i64 0, .slice none 0 0] 25)
  have x3 := heap_alloc_new w (.cells #[.int .u8 h.k, .int .i64 h.v, .slice p l c] 25)
  have x4 := heap_alloc_new (w.alloc (.cells #[.int .u8 h.k, .int .i64 h.v, .slice p l c] 25)) (.cells #[.int .u8 0, .int .i64 0, .slice none 0 0] 25)
  rw [z1] at x4 hb2
  have X3 := Lib.hid ((hb2.block _ (by omega)).trans x3); have X4 := Lib.hid x4
  have hbb : Below w.heap.size w ((w.alloc (.cells #[.int .u8 h.k, .int .i64 h.v, .slice p l c] 25)).alloc (.cells #[.int .u8 0, .int .i64 0, .slice none 0 0] 25)) := hb1.alloc (by rw [z1]; omega) _
  have HT := Lib.hid (hT.below hbb); have HTY := Lib.hid ((Kp.of_below (P := P) hbb).ty hTy); have HTY0 := Lib.hid hTy; have HK := Lib.hid (Kp.of_below (P := fun b => decide (b ≠ k.s)) hbb)
  have HR := Lib.hid hR; have HP := Lib.hid hP; have HLOW := Lib.hid hT.all_low; have HAC := Lib.hid hac; have HNO := Lib.hid hno; have HMAY := Lib.hid hmay; have HVS := Lib.hid hvs; have IH := Lib.hid ih; have HKS := Lib.hid hks; have HFEW := Lib.hid hT.me.few
  have hhd := hTy.head
  have HHD := Lib.hid hhd
  have HZ := Lib.hid (show ((w.alloc (.cells #[.int .u8 h.k, .int .i64 h.v, .slice p l c] 25)).alloc (.cells #[.int .u8 0, .int .i64 0, .slice none 0 0] 25)).heap.size = w.heap.size + 2 by simp)
  clear hi hz0 hz1 hz2 hks hb1 hb2 x3 x4 hbb hT hR hTy hP hac hno hmay hvs ih z1 hhd
  go_enter Tryd.func61, Tryd.ntmps61
  go_upto_region 1 with (fail)
  generalize hw2 : (w.alloc (.cells #[.int .u8 h.k, .int .i64 h.v, .slice p l c] 25)).alloc (.cells #[.int .u8 0, .int .i64 0, .slice none 0 0] 25) = w2 at *
  clear hw2
  obtain ⟨⟨a0, a1, a2⟩, ⟨af0, af1, af2⟩, al⟩ := c3 X3.out
  by_cases h5 : t.h.k = 5
  · obtain ⟨x, hx⟩ : ∃ x, t = tyV x := ⟨_, is_var HMAY.out h5⟩
    obtain rfl : h = ⟨5, (x : Int)⟩ := by rw [← HHD.out, hx]; rfl
    have hxn : x < n := HVS.out x (by rw [hx, vars_var]; simp)
    have hnw := name_walk P k (some (k0, n0, e0)) n e g nm st x w2 HT.out HR.out hxn
    have HNW := Lib.hid hnw; have HXT := Lib.hid hx
    have HKL := Lib.hid (show w.heap.size ≠ k.s ∧ w.heap.size + 1 ≠ k.s by have := HKS.out; omega)
    clear hnw hx h5
    go_wp2_with (fail)
    refine HNW.out.mono ?_
    rintro en w3 ⟨rfl, e1, hT3, hR3, hk3⟩
    have hx3 := (hk3.block _ (lt_of_block X3.out) (decide_eq_true HKL.out.1)).trans X3.out
    have hx4 := (hk3.block _ (lt_of_block X4.out) (decide_eq_true HKL.out.2)).trans X4.out
    have how := own_walk P k k0 n n0 e1 e0 g (nm x) w3 hT3
    have HOW := Lib.hid how; have HT3 := Lib.hid hT3; have HR3 := Lib.hid hR3; have HK3 := Lib.hid (HK.out.trans hk3); have X33 := Lib.hid hx3; have X43 := Lib.hid hx4
    have HZ3 := Lib.hid (show w.heap.size + 2 ≤ w3.heap.size by have := hk3.size; have := HZ.out; omega)
    have HNMX := Lib.hid (Nat.lt_of_le_of_lt (HR.out.le x) hxn)
    clear how hT3 hR3 hk3 hx3 hx4 HT HK X3 X4 HNW a0 a1 a2 af0 af1 af2 al
    go_wp2_with (fail)
    refine HOW.out.mono ?_
    rintro en w3' ⟨rfl, rfl⟩
    clear HOW
    by_cases hown : n0 ≤ nm x
    · rw [decide_eq_true hown]
      obtain ⟨t', ht'⟩ := HNO.out (by rw [HXT.out]; rfl) (by rw [HXT.out]; exact hown)
      have hvx : (t.h.v.toNat) = x := by rw [HXT.out]; rfl
      rw [hvx] at ht'
      have hsw := stand_walk P w3' k (some (k0, n0, e0)) n e1 g (nm x) HT3.out (keyOk_of (by have := HNMX.out; have := HFEW.out; omega))
      rw [HR3.out.at_nm x, ht'] at hsw
      obtain ⟨_, _, tk', tm'⟩ := HR3.out.name ht'
      have HMT := Lib.hid tm'; have HN5 := Lib.hid tk'; have HSW := Lib.hid hsw; have HST := Lib.hid ht'; have HOWN := Lib.hid hown
      have HIH := Lib.hid (IH.out t' (.inr ⟨by rw [HXT.out]; rfl, by rw [hvx]; exact ht'⟩))
      clear hown ht' hvx hsw tk' tm'
      obtain ⟨⟨a0, a1, a2⟩, ⟨af0, af1, af2⟩, al⟩ := c3 X33.out
      go_wp2_with (fail)
      refine HSW.out.mono ?_
      rintro en w4 ⟨h', p', l', c', rfl, hty', hb4⟩
      have hty4 : TyIs (veil P w4) h' p' l' c' t' := (Kp.of_below (P := P) hb4).ty hty'
      clear a0 a1 a2 af0 af1 af2 al
      have hx3 := (hb4.block _ (lt_of_block X33.out)).trans X33.out
      have hx4 := (hb4.block _ (lt_of_block X43.out)).trans X43.out
      obtain ⟨⟨a0, a1, a2⟩, ⟨af0, af1, af2⟩, al⟩ := c3 hx3
      have HTY4 := Lib.hid hty4; have HX3 := Lib.hid hx3; have HX4 := Lib.hid hx4; have HT4 := Lib.hid (HT3.out.below hb4); have HK4 := Lib.hid (HK3.out.trans (Kp.of_below hb4)); have HZ4 := Lib.hid (Nat.le_trans HZ3.out hb4.size)
      clear hty' hb4 hty4 hx3 hx4 HSW X33 X43 HT3 HK3 HZ3
      go_upto_region 6 with (fail)
      have hx3 := set3b (x := .int .u8 h'.k) (y := .int .i64 h'.v) (z := .slice p' l' c') HX3.out
      have hx4 := (set3o w4 (N := w.heap.size) (i := w.heap.size + 1) (.int .u8 h'.k) (.int .i64 h'.v) (.slice p' l' c') (by omega)).trans HX4.out
      have hlow : Below w.heap.size w4 (((w4.setCell ⟨w.heap.size, 0, none⟩ (.int .u8 h'.k)).setCell ⟨w.heap.size, 1, none⟩ (.int .i64 h'.v)).setCell ⟨w.heap.size, 2, none⟩ (.slice p' l' c')) := (((Below.refl _ _).setCell (p := ⟨w.heap.size, 0, none⟩) (Nat.le_refl _) _).setCell (p := ⟨w.heap.size, 1, none⟩) (Nat.le_refl _) _).setCell (p := ⟨w.heap.size, 2, none⟩) (Nat.le_refl _) _
      generalize ((w4.setCell ⟨w.heap.size, 0, none⟩ (.int .u8 h'.k)).setCell ⟨w.heap.size, 1, none⟩ (.int .i64 h'.v)).setCell ⟨w.heap.size, 2, none⟩ (.slice p' l' c') = w5 at *
      have hPw : ∀ b, P b = true → b < w.heap.size ∧ b ≠ k.s := fun b hb => by
        refine ⟨?_, fun e => by subst e; rw [HT4.out.me.ps] at hb; cases hb⟩
        rcases Nat.lt_or_ge b w.heap.size with q | q
        · exact q
        · rw [HP.out b q] at hb; cases hb
      have HTYW := Lib.hid (HTY4.out.reads' (veil_to (P' := P) (W' := w5) fun b hb hp => ⟨hp, hlow.block b (hPw b hp).1⟩))
      have HKK := Lib.hid (fun W (hW : Kp (fun b => decide (b ≠ k.s)) w W) => HTY4.out.kids.reads' (veil_to (P' := P) (W' := W) fun b hb hp => ⟨hp, (hW.block b (hPw b hp).1 (decide_eq_true (hPw b hp).2)).trans (HK4.out.block b (hPw b hp).1 (decide_eq_true (hPw b hp).2)).symm⟩))
      have HTW := Lib.hid (HT4.out.low hlow HP.out HLOW.out.1 HLOW.out.2); have HKW := Lib.hid (HK4.out.low hlow); have HRW := HR3; have X3W := Lib.hid hx3; have X4W := Lib.hid hx4; have HZW := Lib.hid (Nat.le_trans HZ4.out hlow.size)
      have HEQ := Lib.hid (show inst (om n0 nm st r) t = inst (om n0 nm st r) t' by rw [HXT.out, inst_var]; exact om_own HR3.out.id HAC.out (by have := HOWN.out; omega) HST.out)
      clear hx3 hx4 hlow hPw HTY4 HX3 HX4 HT4 HK4 HZ4 HR3 a0 a1 a2 af0 af1 af2 al
      obtain ⟨⟨a0, a1, a2⟩, ⟨af0, af1, af2⟩, al⟩ := c3 X3W.out
      have hlen : l' = (t').ks.length := HTYW.out.len.symm
      have hl2 : l' ≤ 2 := by
        rw [hlen]
        rcases (may_node HMT.out).1 with ⟨_, e⟩ | ⟨_, e⟩ | ⟨_, e⟩ <;> omega
      have HLEN := Lib.hid hlen
      clear hlen
      go_wp2_with (fail)
      go_loopw [6, 28] (fun own i wr => ∃ (j d : Nat) (a : Option Addr) (e' : Nat → Option Ty), j ≤ l' ∧ i = .int .i64 j ∧ own = .slice a j d ∧ Hid (RowT (w.heap.size + 2) (.slice a j d) (((t').ks.take j).map (inst (om n0 nm st r))) wr) ∧ Hid (TBk P wr k (some (k0, n0, e0)) n e' g) ∧ Hid (Rep (cmb (some (k0, n0, e0)) e') nm st) ∧ Hid (Kp (fun b => decide (b ≠ k.s)) w wr) ∧ Hid (wr.heap[w.heap.size]? = some (.cells #[.int .u8 h'.k, .int .i64 h'.v, .slice p' l' c'] 25 (0, 0)) ∧ wr.heap[w.heap.size + 1]? = some (.cells #[.int .u8 0, .int .i64 0, .slice none 0 0] 25 (0, 0)) ∧ w.heap.size + 2 ≤ wr.heap.size)) (fun _ i _ => l' - (intOf i).toNat)
      case atStart => exact ⟨0, 0, none, _, Nat.zero_le _, rfl, rfl, Lib.hid (by rw [List.take_zero]; exact RowT.nil _ _), HTW, HRW, HKW, Lib.hid ⟨X3W.out, X4W.out, HZW.out⟩⟩
      case round =>
        obtain ⟨j, d, a, e', hj, rfl, rfl, HO, HT1, HR1, HK1, HX⟩ := hrel
        clear a0 a1 a2 af0 af1 af2 al
        obtain ⟨⟨a0, a1, a2⟩, ⟨af0, af1, af2⟩, al⟩ := c3 HX.out.1
        by_cases hlt : j < l'
        · have hjk : j < (t').ks.length := by rw [← HLEN.out]; exact hlt
          have hkr : Kids (veil P wr) p' (t').ks := HKK.out wr HK1.out
          obtain ⟨bb, o, qq, cc, rfl, hkid, c0, c1, c2⟩ := hkr.get j hjk
          obtain ⟨hd, hhd⟩ : ∃ hd, hd = (tget (t').ks j).h := ⟨_, rfl⟩
          obtain ⟨lk, hlk⟩ : ∃ lk, lk = (tget (t').ks j).ks.length := ⟨_, rfl⟩
          rw [← hhd] at c0 c1 hkid
          rw [← hlk] at c2 hkid
          have f0 := (veil_seen c0).2
          have f1 := (veil_seen c1).2
          have f2 := (veil_seen c2).2
          have hbk := al_new (W := wr) (.cells #[.int .u8 hd.k, .int .i64 hd.v, .slice qq lk cc] 25)
          have hz8 : (wr.alloc (.cells #[.int .u8 hd.k, .int .i64 hd.v, .slice qq lk cc] 25)).heap.size = wr.heap.size + 1 := by simp
          have hcl := HIH.out (tget (t').ks j) (tget_mem hjk) e' hd qq lk cc (wr.alloc (.cells #[.int .u8 hd.k, .int .i64 hd.v, .slice qq lk cc] 25)) (HT1.out.below hbk) HR1.out ((Kp.of_below (P := P) hbk).ty hkid) (fun b hb => HP.out b (Nat.le_trans HK1.out.size (Nat.le_trans hbk.size hb)))
          have HCL := Lib.hid hcl; have HJK := Lib.hid hjk
          have HB8 := Lib.hid hbk; have HZ8 := Lib.hid hz8
          have HX8 := Lib.hid (heap_alloc_new wr (.cells #[.int .u8 hd.k, .int .i64 hd.v, .slice qq lk cc] 25))
          clear hkr hkid c0 c1 c2 hhd hlk hbk hcl hjk hz8
          go_wp2_with (fail)
          refine HCL.out.mono ?_
          rintro en w3 ⟨hh, q3, l3, cc3, e3, rfl, hty3, hT3, hR3, hk3⟩
          have hO3 := (HO.out.below HB8.out).kp hk3 (by have := HKS.out; omega)
          obtain ⟨xs, hown, hflat⟩ := hO3
          have hls : (((t').ks.take j).map (inst (om n0 nm st r))).length = j := by rw [List.length_map, List.length_take]; have := HJK.out; omega
          rw [hls] at hown
          have hsz3 : w.heap.size + 2 ≤ w3.heap.size := by have := hk3.size; have := HB8.out.size; have := HX.out.2.2; omega
          have hb4 := al_new (W := w3) (.cells #[.int .u8 hh.k, .int .i64 hh.v, .slice q3 l3 cc3] 25)
          have hown4 := own_all hown hb4
          have hflat4 : Flat (veil (seenT (w.heap.size + 2) (.slice a j d)) (w3.alloc (.cells #[.int .u8 hh.k, .int .i64 hh.v, .slice q3 l3 cc3] 25))) xs (((t').ks.take j).map (inst (om n0 nm st r))) := hflat.reads (veil_to fun b hbl hp => ⟨hp, hb4.block b hbl⟩)
          have hty4 : TyIs (veil (from_ (wr.alloc (.cells #[.int .u8 hd.k, .int .i64 hd.v, .slice qq lk cc] 25)).heap.size) (w3.alloc (.cells #[.int .u8 hh.k, .int .i64 hh.v, .slice q3 l3 cc3] 25))) hh q3 l3 cc3 (inst (om n0 nm st r) (tget (t').ks j)) := hty3.reads' (veil_to fun b hbl hp => ⟨hp, hb4.block b hbl⟩)
          have hne3 : w.heap.size ≠ k.s := by have := HKS.out; omega
          have hne4 : w.heap.size + 1 ≠ k.s := by have := HKS.out; omega
          have hx3 := (hk3.block _ (Nat.lt_of_lt_of_le (lt_of_block HX.out.1) HB8.out.size) (decide_eq_true hne3)).trans ((HB8.out.block _ (lt_of_block HX.out.1)).trans HX.out.1)
          have hx4 := (hk3.block _ (Nat.lt_of_lt_of_le (lt_of_block HX.out.2.1) HB8.out.size) (decide_eq_true hne4)).trans ((HB8.out.block _ (lt_of_block HX.out.2.1)).trans HX.out.2.1)
          have HX3 := Lib.hid ((hb4.block _ (lt_of_block hx3)).trans hx3); have HX4 := Lib.hid ((hb4.block _ (lt_of_block hx4)).trans hx4)
          have HT4 := Lib.hid (hT3.below hb4); have HR4 := Lib.hid hR3; have HK4 := Lib.hid (((HK1.out.trans (Kp.of_below HB8.out)).trans hk3).trans (Kp.of_below hb4))
          have HOW := Lib.hid hown4; have HFL := Lib.hid hflat4; have HTY4 := Lib.hid hty4; have HS3 := Lib.hid hsz3; have HLS := Lib.hid hls
          have HGL := Lib.hid (show ∀ g, (Value.slice a j d).ownBlock = some g → g < wr.heap.size ∧ w.heap.size + 2 ≤ g from fun g e => (HO.out.elim fun ys h => ⟨(h.1.lt g e).2, (h.1.lt g e).1⟩))
          have HM8 := Lib.hid (show w.heap.size + 2 ≤ (wr.alloc (.cells #[.int .u8 hd.k, .int .i64 hd.v, .slice qq lk cc] 25)).heap.size by rw [HZ8.out]; have := HX.out.2.2; omega)
          clear hty3 hT3 hR3 hk3 hown hflat hls hb4 hown4 hflat4 hty4 hx3 hx4 hne3 hne4 hsz3 HCL HO HT1 HR1 HX f0 f1 f2 a0 a1 a2 af0 af1 af2 al
          go_wp2_with (at_builtin; refine wpList_append_own_at _ rfl (.tmp 32) (.tmp 36) 23 rfl (w.heap.size + 2) 25 i0 _ 3 40 Tryd.underlying23 HI.out HZ0.out HZ1.out HZ2.out rfl (by decide) (.slice a j d) j xs rfl HOW.out ⟨w3.heap.size, 0, none⟩ 1 1 (tcells hh q3 l3 cc3) rfl rfl (new_cells' rfl) (cells_one' _ _ _ _) (by unfold maxLen; omega) (by omega) (by have := HS3.out; simp; omega) ?_; intro v' w5 hown5 hgr5 _ hat5; obtain ⟨a5, c5, rfl, hc5, hn5⟩ := own_slice hown5; have HO5 := Lib.hid hown5; have HG5 := Lib.hid hgr5; have HA5 := Lib.hid hat5; clear hown5 hgr5 hat5 hc5 hn5)
          have hrow := row_step (B := (w.heap.size + 2)) (M := (wr.alloc (.cells #[.int .u8 hd.k, .int .i64 hd.v, .slice qq lk cc] 25)).heap.size) (v := .slice a j d) (ts := ((t').ks.take j).map (inst (om n0 nm st r))) (by rw [HLS.out]; exact HOW.out) HFL.out HTY4.out HM8.out (fun g e => Nat.lt_of_lt_of_le (HGL.out g e).1 HB8.out.size) (by rw [HLS.out]; exact HO5.out) HG5.out HA5.out
          rw [← map_take_tget HJK.out] at hrow
          have hlow5 : Below (w.heap.size + 2) (w3.alloc (.cells #[.int .u8 hh.k, .int .i64 hh.v, .slice q3 l3 cc3] 25)) w5 := (Below.refl _ _).grown HG5.out (by have := HS3.out; simp; omega) (fun g e => (HGL.out g e).2)
          have hlow : Below w.heap.size (w3.alloc (.cells #[.int .u8 hh.k, .int .i64 hh.v, .slice q3 l3 cc3] 25)) w5 := hlow5.mono (by omega)
          have HXX := Lib.hid (And.intro ((hlow5.block _ (show w.heap.size < w.heap.size + 2 by omega)).trans HX3.out) ((hlow5.block _ (show w.heap.size + 1 < w.heap.size + 2 by omega)).trans HX4.out))
          have HROW := Lib.hid hrow; have HT5 := Lib.hid (HT4.out.low hlow HP.out HLOW.out.1 HLOW.out.2); have HK5 := Lib.hid (HK4.out.low hlow); have HS5 := Lib.hid (show w.heap.size + 2 ≤ w5.heap.size by have h1 := hlow5.size; have h2 := HS3.out; have h3 : (w3.alloc (.cells #[.int .u8 hh.k, .int .i64 hh.v, .slice q3 l3 cc3] 25)).heap.size = w3.heap.size + 1 := (by simp); omega)
          clear hrow hlow5 hlow HO5 HG5 HA5 HT4 HK4 HX3 HX4 HOW HFL HTY4
          go_roundw
          case rel => exact ⟨j + 1, c5, a5, e3, by omega, by go_num, rfl, HROW, HT5, HR4, HK5, Lib.hid ⟨HXX.out.1, HXX.out.2, HS5.out⟩⟩
          case measure => simp [intOf]; omega
        · obtain rfl : j = l' := by omega
          have hrow := HO.out
          rw [List.take_of_length_le (by rw [← HLEN.out]; exact Nat.le_refl _)] at hrow
          have hml : ((t').ks.map (inst (om n0 nm st r))).length = j := by rw [List.length_map, HLEN.out]
          obtain ⟨aa, dd, hv, hd1, hd2⟩ := hrow.slice
          injection hv with hv1 hv2 hv3
          subst hv1 hv3
          rw [hml] at hd2
          have hkd : Kids (veil (from_ (w.heap.size + 2)) wr) a ((t').ks.map (inst (om n0 nm st r))) := RowT.kids (a := a) (c := d) (by rw [hml]; exact hrow)
          have HFIN := Lib.hid (show ∀ W, Below w.heap.size wr W → (∀ b, b < wr.heap.size → b ≠ w.heap.size → b ≠ w.heap.size + 1 → W.heap[b]? = wr.heap[b]?) → WhEnd P k (some (k0, n0, e0)) n g nm st (inst (om n0 nm st r) t) w (.returned (.agg #[.int .u8 h'.k, .int .i64 h'.v, .slice a j d])) W from fun W hW hWb => ⟨h', a, j, d, e', rfl, by
            rw [HEQ.out]
            refine ⟨(inst_head HN5.out).1.trans HTYW.out.head, by rw [(inst_head HN5.out).2, hml], HTYW.out.ok, ⟨hd2, hd1⟩, ?_⟩
            rw [(inst_head HN5.out).2]
            exact hkd.reads' (veil_to fun b hb hp => ⟨decide_eq_true (by have : w.heap.size + 2 ≤ b := of_decide_eq_true hp; omega), hWb b hb (by have : w.heap.size + 2 ≤ b := of_decide_eq_true hp; omega) (by have : w.heap.size + 2 ≤ b := of_decide_eq_true hp; omega)⟩), HT1.out.low hW HP.out HLOW.out.1 HLOW.out.2, HR1.out, HK1.out.low hW⟩)
          obtain ⟨⟨b0, b1, b2⟩, ⟨bf0, bf1, bf2⟩, bl⟩ := c3 HX.out.2.1
          have HX4 := Lib.hid HX.out.2.1; have HSZ := Lib.hid HX.out.2.2
          clear hrow hml hd1 hd2 hv2 hkd HO HT1 HR1 HX
          go_wp2_with (fail)
          have hx := (Below.heap_setCell wr ⟨w.heap.size, 2, none⟩ (.slice a j d) (w.heap.size + 1) (by show w.heap.size + 1 ≠ w.heap.size; omega)).trans HX4.out
          have hz := set3b (x := .int .u8 h'.k) (y := .int .i64 h'.v) (z := .slice a j d) hx
          have hball : Below w.heap.size wr ((((wr.setCell ⟨w.heap.size, 2, none⟩ (.slice a j d)).setCell ⟨w.heap.size + 1, 0, none⟩ (.int .u8 h'.k)).setCell ⟨w.heap.size + 1, 1, none⟩ (.int .i64 h'.v)).setCell ⟨w.heap.size + 1, 2, none⟩ (.slice a j d)) := ((((Below.refl _ _).setCell (p := ⟨w.heap.size, 2, none⟩) (Nat.le_refl _) _).setCell (p := ⟨w.heap.size + 1, 0, none⟩) (Nat.le_succ _) _).setCell (p := ⟨w.heap.size + 1, 1, none⟩) (Nat.le_succ _) _).setCell (p := ⟨w.heap.size + 1, 2, none⟩) (Nat.le_succ _) _
          have hblk : ∀ b, b < wr.heap.size → b ≠ w.heap.size → b ≠ w.heap.size + 1 → ((((wr.setCell ⟨w.heap.size, 2, none⟩ (.slice a j d)).setCell ⟨w.heap.size + 1, 0, none⟩ (.int .u8 h'.k)).setCell ⟨w.heap.size + 1, 1, none⟩ (.int .i64 h'.v)).setCell ⟨w.heap.size + 1, 2, none⟩ (.slice a j d)).heap[b]? = wr.heap[b]? := fun b _ h1 h2 => (set3o _ _ _ _ _ h2).trans (Below.heap_setCell _ _ _ _ h1)
          have hfin := HFIN.out _ hball hblk
          generalize (((wr.setCell ⟨w.heap.size, 2, none⟩ (.slice a j d)).setCell ⟨w.heap.size + 1, 0, none⟩ (.int .u8 h'.k)).setCell ⟨w.heap.size + 1, 1, none⟩ (.int .i64 h'.v)).setCell ⟨w.heap.size + 1, 2, none⟩ (.slice a j d) = w9 at *
          clear a0 a1 a2 af0 af1 af2 al b0 b1 b2 bf0 bf1 bf2 bl
          obtain ⟨⟨g0, g1, g2⟩, -, gl⟩ := c3 hz
          exact bodyPost_ret (v := .agg #[.int .u8 h'.k, .int .i64 h'.v, .slice a j d]) (by simp [results, Tryd.results61, go_sem, g0, g1, g2, gl]) rfl hfin
    · rw [decide_eq_false hown]
      have HOWN := Lib.hid hown
      clear hown
      go_wp2_with (fail)
      refine (variable_walk ((nm x : Nat) : Int) _).mono ?_
      rintro en w4 ⟨rfl, hb4⟩
      have hx := (hb4.block _ (lt_of_block X43.out)).trans X43.out
      obtain ⟨⟨g0, g1, g2⟩, ⟨gf0, gf1, gf2⟩, gl⟩ := c3 hx
      have HX := Lib.hid hx; have HT4 := Lib.hid (HT3.out.below hb4); have HK4 := Lib.hid (HK3.out.trans (Kp.of_below hb4))
      clear hx hb4 X33 X43 HT3 HK3
      go_wp2_with (fail)
      have hx := HX.out
      have hz := set3b (x := .int .u8 5) (y := .int .i64 ((nm x : Nat) : Int)) (z := .slice none 0 0) hx
      have hball : Below w.heap.size w4 (((w4.setCell ⟨w.heap.size + 1, 0, none⟩ (.int .u8 5)).setCell ⟨w.heap.size + 1, 1, none⟩ (.int .i64 ((nm x : Nat) : Int))).setCell ⟨w.heap.size + 1, 2, none⟩ (.slice none 0 0)) := (((Below.refl _ _).setCell (p := ⟨w.heap.size + 1, 0, none⟩) (Nat.le_succ _) _).setCell (p := ⟨w.heap.size + 1, 1, none⟩) (Nat.le_succ _) _).setCell (p := ⟨w.heap.size + 1, 2, none⟩) (Nat.le_succ _) _
      generalize ((w4.setCell ⟨w.heap.size + 1, 0, none⟩ (.int .u8 5)).setCell ⟨w.heap.size + 1, 1, none⟩ (.int .i64 ((nm x : Nat) : Int))).setCell ⟨w.heap.size + 1, 2, none⟩ (.slice none 0 0) = w9 at *
      clear g0 g1 g2 gf0 gf1 gf2 gl
      obtain ⟨⟨g0, g1, g2⟩, -, gl⟩ := c3 hz
      refine bodyPost_ret (v := .agg #[.int .u8 5, .int .i64 ((nm x : Nat) : Int), .slice none 0 0]) (by simp [results, Tryd.results61, go_sem, g0, g1, g2, gl]) rfl ?_
      exact ⟨⟨5, ((nm x : Nat) : Int)⟩, none, 0, 0, e1, rfl, by rw [HXT.out, inst_var, om_under (by have := HOWN.out; omega)]; exact tyV_is _ (by have := HNMX.out; have := HFEW.out; omega), HT4.out.low hball HP.out HLOW.out.1 HLOW.out.2, HR3.out, HK4.out.low hball⟩
  · have h5' : (h.k == 5) = false := by rw [← HHD.out]; exact beq_eq_false_iff_ne.2 h5
    have HKK := Lib.hid (fun W (hW : Kp (fun b => decide (b ≠ k.s)) w W) => (veil_kp HT.out.me.ps hW).kids HTY0.out.kids)
    have HTYW := HTY; have HTW := HT; have HRW := HR; have HKW := HK; have X3W := X3; have X4W := X4; have HZW := Lib.hid (Nat.le_of_eq HZ.out.symm); have HMT := HMAY
    have HN5 := Lib.hid h5
    have HIH := Lib.hid (IH.out t (.inl ⟨rfl, h5⟩))
    clear h5 HT HTY HR HK X3 X4
    go_upto_region 6 with (fail)
    clear h5' a0 a1 a2 af0 af1 af2 al
    obtain ⟨⟨a0, a1, a2⟩, ⟨af0, af1, af2⟩, al⟩ := c3 X3W.out
    have hlen : l = (t).ks.length := HTYW.out.len.symm
    have hl2 : l ≤ 2 := by
      rw [hlen]
      rcases (may_node HMT.out).1 with ⟨_, e⟩ | ⟨_, e⟩ | ⟨_, e⟩ <;> omega
    have HLEN := Lib.hid hlen
    clear hlen
    go_wp2_with (fail)
    go_loopw [6, 28] (fun own i wr => ∃ (j d : Nat) (a : Option Addr) (e' : Nat → Option Ty), j ≤ l ∧ i = .int .i64 j ∧ own = .slice a j d ∧ Hid (RowT (w.heap.size + 2) (.slice a j d) (((t).ks.take j).map (inst (om n0 nm st r))) wr) ∧ Hid (TBk P wr k (some (k0, n0, e0)) n e' g) ∧ Hid (Rep (cmb (some (k0, n0, e0)) e') nm st) ∧ Hid (Kp (fun b => decide (b ≠ k.s)) w wr) ∧ Hid (wr.heap[w.heap.size]? = some (.cells #[.int .u8 h.k, .int .i64 h.v, .slice p l c] 25 (0, 0)) ∧ wr.heap[w.heap.size + 1]? = some (.cells #[.int .u8 0, .int .i64 0, .slice none 0 0] 25 (0, 0)) ∧ w.heap.size + 2 ≤ wr.heap.size)) (fun _ i _ => l - (intOf i).toNat)
    case atStart => exact ⟨0, 0, none, _, Nat.zero_le _, rfl, rfl, Lib.hid (by rw [List.take_zero]; exact RowT.nil _ _), HTW, HRW, HKW, Lib.hid ⟨X3W.out, X4W.out, HZW.out⟩⟩
    case round =>
      obtain ⟨j, d, a, e', hj, rfl, rfl, HO, HT1, HR1, HK1, HX⟩ := hrel
      clear a0 a1 a2 af0 af1 af2 al
      obtain ⟨⟨a0, a1, a2⟩, ⟨af0, af1, af2⟩, al⟩ := c3 HX.out.1
      by_cases hlt : j < l
      · have hjk : j < (t).ks.length := by rw [← HLEN.out]; exact hlt
        have hkr : Kids (veil P wr) p (t).ks := HKK.out wr HK1.out
        obtain ⟨bb, o, qq, cc, rfl, hkid, c0, c1, c2⟩ := hkr.get j hjk
        obtain ⟨hd, hhd⟩ : ∃ hd, hd = (tget (t).ks j).h := ⟨_, rfl⟩
        obtain ⟨lk, hlk⟩ : ∃ lk, lk = (tget (t).ks j).ks.length := ⟨_, rfl⟩
        rw [← hhd] at c0 c1 hkid
        rw [← hlk] at c2 hkid
        have f0 := (veil_seen c0).2
        have f1 := (veil_seen c1).2
        have f2 := (veil_seen c2).2
        have hbk := al_new (W := wr) (.cells #[.int .u8 hd.k, .int .i64 hd.v, .slice qq lk cc] 25)
        have hz8 : (wr.alloc (.cells #[.int .u8 hd.k, .int .i64 hd.v, .slice qq lk cc] 25)).heap.size = wr.heap.size + 1 := by simp
        have hcl := HIH.out (tget (t).ks j) (tget_mem hjk) e' hd qq lk cc (wr.alloc (.cells #[.int .u8 hd.k, .int .i64 hd.v, .slice qq lk cc] 25)) (HT1.out.below hbk) HR1.out ((Kp.of_below (P := P) hbk).ty hkid) (fun b hb => HP.out b (Nat.le_trans HK1.out.size (Nat.le_trans hbk.size hb)))
        have HCL := Lib.hid hcl; have HJK := Lib.hid hjk
        have HB8 := Lib.hid hbk; have HZ8 := Lib.hid hz8
        have HX8 := Lib.hid (heap_alloc_new wr (.cells #[.int .u8 hd.k, .int .i64 hd.v, .slice qq lk cc] 25))
        clear hkr hkid c0 c1 c2 hhd hlk hbk hcl hjk hz8
        go_wp2_with (fail)
        refine HCL.out.mono ?_
        rintro en w3 ⟨hh, q3, l3, cc3, e3, rfl, hty3, hT3, hR3, hk3⟩
        have hO3 := (HO.out.below HB8.out).kp hk3 (by have := HKS.out; omega)
        obtain ⟨xs, hown, hflat⟩ := hO3
        have hls : (((t).ks.take j).map (inst (om n0 nm st r))).length = j := by rw [List.length_map, List.length_take]; have := HJK.out; omega
        rw [hls] at hown
        have hsz3 : w.heap.size + 2 ≤ w3.heap.size := by have := hk3.size; have := HB8.out.size; have := HX.out.2.2; omega
        have hb4 := al_new (W := w3) (.cells #[.int .u8 hh.k, .int .i64 hh.v, .slice q3 l3 cc3] 25)
        have hown4 := own_all hown hb4
        have hflat4 : Flat (veil (seenT (w.heap.size + 2) (.slice a j d)) (w3.alloc (.cells #[.int .u8 hh.k, .int .i64 hh.v, .slice q3 l3 cc3] 25))) xs (((t).ks.take j).map (inst (om n0 nm st r))) := hflat.reads (veil_to fun b hbl hp => ⟨hp, hb4.block b hbl⟩)
        have hty4 : TyIs (veil (from_ (wr.alloc (.cells #[.int .u8 hd.k, .int .i64 hd.v, .slice qq lk cc] 25)).heap.size) (w3.alloc (.cells #[.int .u8 hh.k, .int .i64 hh.v, .slice q3 l3 cc3] 25))) hh q3 l3 cc3 (inst (om n0 nm st r) (tget (t).ks j)) := hty3.reads' (veil_to fun b hbl hp => ⟨hp, hb4.block b hbl⟩)
        have hne3 : w.heap.size ≠ k.s := by have := HKS.out; omega
        have hne4 : w.heap.size + 1 ≠ k.s := by have := HKS.out; omega
        have hx3 := (hk3.block _ (Nat.lt_of_lt_of_le (lt_of_block HX.out.1) HB8.out.size) (decide_eq_true hne3)).trans ((HB8.out.block _ (lt_of_block HX.out.1)).trans HX.out.1)
        have hx4 := (hk3.block _ (Nat.lt_of_lt_of_le (lt_of_block HX.out.2.1) HB8.out.size) (decide_eq_true hne4)).trans ((HB8.out.block _ (lt_of_block HX.out.2.1)).trans HX.out.2.1)
        have HX3 := Lib.hid ((hb4.block _ (lt_of_block hx3)).trans hx3); have HX4 := Lib.hid ((hb4.block _ (lt_of_block hx4)).trans hx4)
        have HT4 := Lib.hid (hT3.below hb4); have HR4 := Lib.hid hR3; have HK4 := Lib.hid (((HK1.out.trans (Kp.of_below HB8.out)).trans hk3).trans (Kp.of_below hb4))
        have HOW := Lib.hid hown4; have HFL := Lib.hid hflat4; have HTY4 := Lib.hid hty4; have HS3 := Lib.hid hsz3; have HLS := Lib.hid hls
        have HGL := Lib.hid (show ∀ g, (Value.slice a j d).ownBlock = some g → g < wr.heap.size ∧ w.heap.size + 2 ≤ g from fun g e => (HO.out.elim fun ys h => ⟨(h.1.lt g e).2, (h.1.lt g e).1⟩))
        have HM8 := Lib.hid (show w.heap.size + 2 ≤ (wr.alloc (.cells #[.int .u8 hd.k, .int .i64 hd.v, .slice qq lk cc] 25)).heap.size by rw [HZ8.out]; have := HX.out.2.2; omega)
        clear hty3 hT3 hR3 hk3 hown hflat hls hb4 hown4 hflat4 hty4 hx3 hx4 hne3 hne4 hsz3 HCL HO HT1 HR1 HX f0 f1 f2 a0 a1 a2 af0 af1 af2 al
        go_wp2_with (at_builtin; refine wpList_append_own_at _ rfl (.tmp 32) (.tmp 36) 23 rfl (w.heap.size + 2) 25 i0 _ 3 40 Tryd.underlying23 HI.out HZ0.out HZ1.out HZ2.out rfl (by decide) (.slice a j d) j xs rfl HOW.out ⟨w3.heap.size, 0, none⟩ 1 1 (tcells hh q3 l3 cc3) rfl rfl (new_cells' rfl) (cells_one' _ _ _ _) (by unfold maxLen; omega) (by omega) (by have := HS3.out; simp; omega) ?_; intro v' w5 hown5 hgr5 _ hat5; obtain ⟨a5, c5, rfl, hc5, hn5⟩ := own_slice hown5; have HO5 := Lib.hid hown5; have HG5 := Lib.hid hgr5; have HA5 := Lib.hid hat5; clear hown5 hgr5 hat5 hc5 hn5)
        have hrow := row_step (B := (w.heap.size + 2)) (M := (wr.alloc (.cells #[.int .u8 hd.k, .int .i64 hd.v, .slice qq lk cc] 25)).heap.size) (v := .slice a j d) (ts := ((t).ks.take j).map (inst (om n0 nm st r))) (by rw [HLS.out]; exact HOW.out) HFL.out HTY4.out HM8.out (fun g e => Nat.lt_of_lt_of_le (HGL.out g e).1 HB8.out.size) (by rw [HLS.out]; exact HO5.out) HG5.out HA5.out
        rw [← map_take_tget HJK.out] at hrow
        have hlow5 : Below (w.heap.size + 2) (w3.alloc (.cells #[.int .u8 hh.k, .int .i64 hh.v, .slice q3 l3 cc3] 25)) w5 := (Below.refl _ _).grown HG5.out (by have := HS3.out; simp; omega) (fun g e => (HGL.out g e).2)
        have hlow : Below w.heap.size (w3.alloc (.cells #[.int .u8 hh.k, .int .i64 hh.v, .slice q3 l3 cc3] 25)) w5 := hlow5.mono (by omega)
        have HXX := Lib.hid (And.intro ((hlow5.block _ (show w.heap.size < w.heap.size + 2 by omega)).trans HX3.out) ((hlow5.block _ (show w.heap.size + 1 < w.heap.size + 2 by omega)).trans HX4.out))
        have HROW := Lib.hid hrow; have HT5 := Lib.hid (HT4.out.low hlow HP.out HLOW.out.1 HLOW.out.2); have HK5 := Lib.hid (HK4.out.low hlow); have HS5 := Lib.hid (show w.heap.size + 2 ≤ w5.heap.size by have h1 := hlow5.size; have h2 := HS3.out; have h3 : (w3.alloc (.cells #[.int .u8 hh.k, .int .i64 hh.v, .slice q3 l3 cc3] 25)).heap.size = w3.heap.size + 1 := (by simp); omega)
        clear hrow hlow5 hlow HO5 HG5 HA5 HT4 HK4 HX3 HX4 HOW HFL HTY4
        go_roundw
        case rel => exact ⟨j + 1, c5, a5, e3, by omega, by go_num, rfl, HROW, HT5, HR4, HK5, Lib.hid ⟨HXX.out.1, HXX.out.2, HS5.out⟩⟩
        case measure => simp [intOf]; omega
      · obtain rfl : j = l := by omega
        have hrow := HO.out
        rw [List.take_of_length_le (by rw [← HLEN.out]; exact Nat.le_refl _)] at hrow
        have hml : ((t).ks.map (inst (om n0 nm st r))).length = j := by rw [List.length_map, HLEN.out]
        obtain ⟨aa, dd, hv, hd1, hd2⟩ := hrow.slice
        injection hv with hv1 hv2 hv3
        subst hv1 hv3
        rw [hml] at hd2
        have hkd : Kids (veil (from_ (w.heap.size + 2)) wr) a ((t).ks.map (inst (om n0 nm st r))) := RowT.kids (a := a) (c := d) (by rw [hml]; exact hrow)
        have HFIN := Lib.hid (show ∀ W, Below w.heap.size wr W → (∀ b, b < wr.heap.size → b ≠ w.heap.size → b ≠ w.heap.size + 1 → W.heap[b]? = wr.heap[b]?) → WhEnd P k (some (k0, n0, e0)) n g nm st (inst (om n0 nm st r) t) w (.returned (.agg #[.int .u8 h.k, .int .i64 h.v, .slice a j d])) W from fun W hW hWb => ⟨h, a, j, d, e', rfl, by
          rw [show inst (om n0 nm st r) t = inst (om n0 nm st r) t from rfl]
          refine ⟨(inst_head HN5.out).1.trans HTYW.out.head, by rw [(inst_head HN5.out).2, hml], HTYW.out.ok, ⟨hd2, hd1⟩, ?_⟩
          rw [(inst_head HN5.out).2]
          exact hkd.reads' (veil_to fun b hb hp => ⟨decide_eq_true (by have : w.heap.size + 2 ≤ b := of_decide_eq_true hp; omega), hWb b hb (by have : w.heap.size + 2 ≤ b := of_decide_eq_true hp; omega) (by have : w.heap.size + 2 ≤ b := of_decide_eq_true hp; omega)⟩), HT1.out.low hW HP.out HLOW.out.1 HLOW.out.2, HR1.out, HK1.out.low hW⟩)
        obtain ⟨⟨b0, b1, b2⟩, ⟨bf0, bf1, bf2⟩, bl⟩ := c3 HX.out.2.1
        have HX4 := Lib.hid HX.out.2.1; have HSZ := Lib.hid HX.out.2.2
        clear hrow hml hd1 hd2 hv2 hkd HO HT1 HR1 HX
        go_wp2_with (fail)
        have hx := (Below.heap_setCell wr ⟨w.heap.size, 2, none⟩ (.slice a j d) (w.heap.size + 1) (by show w.heap.size + 1 ≠ w.heap.size; omega)).trans HX4.out
        have hz := set3b (x := .int .u8 h.k) (y := .int .i64 h.v) (z := .slice a j d) hx
        have hball : Below w.heap.size wr ((((wr.setCell ⟨w.heap.size, 2, none⟩ (.slice a j d)).setCell ⟨w.heap.size + 1, 0, none⟩ (.int .u8 h.k)).setCell ⟨w.heap.size + 1, 1, none⟩ (.int .i64 h.v)).setCell ⟨w.heap.size + 1, 2, none⟩ (.slice a j d)) := ((((Below.refl _ _).setCell (p := ⟨w.heap.size, 2, none⟩) (Nat.le_refl _) _).setCell (p := ⟨w.heap.size + 1, 0, none⟩) (Nat.le_succ _) _).setCell (p := ⟨w.heap.size + 1, 1, none⟩) (Nat.le_succ _) _).setCell (p := ⟨w.heap.size + 1, 2, none⟩) (Nat.le_succ _) _
        have hblk : ∀ b, b < wr.heap.size → b ≠ w.heap.size → b ≠ w.heap.size + 1 → ((((wr.setCell ⟨w.heap.size, 2, none⟩ (.slice a j d)).setCell ⟨w.heap.size + 1, 0, none⟩ (.int .u8 h.k)).setCell ⟨w.heap.size + 1, 1, none⟩ (.int .i64 h.v)).setCell ⟨w.heap.size + 1, 2, none⟩ (.slice a j d)).heap[b]? = wr.heap[b]? := fun b _ h1 h2 => (set3o _ _ _ _ _ h2).trans (Below.heap_setCell _ _ _ _ h1)
        have hfin := HFIN.out _ hball hblk
        generalize (((wr.setCell ⟨w.heap.size, 2, none⟩ (.slice a j d)).setCell ⟨w.heap.size + 1, 0, none⟩ (.int .u8 h.k)).setCell ⟨w.heap.size + 1, 1, none⟩ (.int .i64 h.v)).setCell ⟨w.heap.size + 1, 2, none⟩ (.slice a j d) = w9 at *
        clear a0 a1 a2 af0 af1 af2 al b0 b1 b2 bf0 bf1 bf2 bl
        obtain ⟨⟨g0, g1, g2⟩, -, gl⟩ := c3 hz
        exact bodyPost_ret (v := .agg #[.int .u8 h.k, .int .i64 h.v, .slice a j d]) (by simp [results, Tryd.results61, go_sem, g0, g1, g2, gl]) rfl hfin
/-- .. whatever the type. -/
theorem whole_walk (P : Nat → Bool) (k k0 : Bk) (n0 : Nat) (e0 : Nat → Option Ty) (n : Nat) (g : Nat → Bool) (nm : Nat → Nat) (st : Nat → Option Ty) (r : Nat → Nat)
    (hac : ∀ v t, st v = some t → ∀ w ∈ varsT t, r (nm w) < r v) (hno : ∀ v, v < n → n0 ≤ nm v → ∃ s, st (nm v) = some s) (hst : ∀ v t, st v = some t → mayT t = true ∧ ∀ w ∈ varsT t, w < n) :
    ∀ (m : Nat) (t : Ty), mayT t = true → (∀ w ∈ varsT t, w < n ∧ r (nm w) < m) → ∀ (e : Nat → Option Ty) (h : Hd) (p : Option Addr) (l c : Nat) (w : World), TBk P w k (some (k0, n0, e0)) n e g → Rep (cmb (some (k0, n0, e0)) e) nm st → TyIs (veil P w) h p l c t → (∀ b, w.heap.size ≤ b → P b = false) →
      Calls Tryd.prog 61 #[.pointer (some ⟨k.b, 0, none⟩), .agg #[.int .u8 h.k, .int .i64 h.v, .slice p l c]] w (WhEnd P k (some (k0, n0, e0)) n g nm st (inst (om n0 nm st r) t) w) := by
  intro m
  induction m using Nat.strongRecOn with
  | _ m ihm =>
    refine ty_rec fun t iht hmay hvs => ?_
    refine whole_body P k k0 n0 e0 n g nm st r t hac (fun h5 h0 => ?_) hmay (fun w hw => (hvs w hw).1) (fun t' ht' s hs => ?_)
    · have hx := is_var hmay h5
      refine hno _ (hvs _ (by rw [hx, vars_var]; exact List.mem_singleton.2 rfl)).1 h0
    · rcases ht' with ⟨rfl, _⟩ | ⟨h5, hs'⟩
      · exact iht s hs (may_mem hmay hs) fun w hw => hvs w (by rw [varsT_eq]; exact List.mem_append_right _ (mem_varsK.2 ⟨s, hs, hw⟩))
      · obtain ⟨tm, tv⟩ := hst _ _ hs'
        have hx := is_var hmay h5
        have hr := (hvs t.h.v.toNat (by rw [hx, vars_var]; exact List.mem_singleton.2 rfl)).2
        refine ihm _ hr s (may_mem tm hs) fun w hw => ?_
        have hw' : w ∈ varsT t' := by rw [varsT_eq]; exact List.mem_append_right _ (mem_varsK.2 ⟨s, hs, hw⟩)
        exact ⟨tv w hw', hac _ _ hs' w hw'⟩
end Types
end Go.Proofs.YtjchplgapaeagaaDoor
