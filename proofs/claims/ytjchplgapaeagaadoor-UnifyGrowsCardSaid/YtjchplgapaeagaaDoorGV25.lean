/-The program's keep. (Written by wip/tools/unkeep.py.) The program's Join. (Written by wip/tools/unjoin.py.) -/
import Derived.Test.YtjchplgapaeagaaDoorGV24
import Derived.Test.YtjchplgapaeagaaDoorGV21
import Derived.Test.YtjchplgapaeagaaDoorGV14
import Derived.Test.YtjchplgapaeagaaDoorGV11
import Derived.Test.YtjchplgapaeagaaDoorGV22
import Derived.Test.YtjchplgapaeagaaDoorGV23
namespace Go.Proofs.YtjchplgapaeagaaDoor
open Go.RowKit
set_option linter.unusedVariables false
set_option linter.unusedSimpArgs false
namespace Types

/-- The book under a trial is told something. -/
theorem TBk.putU {P : Nat → Bool} {w w' : World} {k k0 : Bk} {n0 n : Nat} {e0 e e0' : Nat → Option Ty} {g : Nat → Bool} (h : TBk P w k (some (k0, n0, e0)) n e g) (hk : Kp (fun b => decide (b ≠ k0.s)) w w') (hs : StAt P w' k0.s e0') (hl : ∀ v t, e0' v = some t → v < n0) : TBk P w' k (some (k0, n0, e0')) n e g := by
  obtain ⟨h1, h2, h3, h4, h5, h6, h7⟩ := h.up
  have hbs : k0.b ≠ k0.s := h1.bs
  have hi : k0.i ≠ k0.s := fun e => h1.si e.symm
  have hP : ∀ b, P b = true → (fun b => decide (b ≠ k0.s)) b = true := fun b hb => decide_eq_true fun e => by subst e; rw [h1.ps] at hb; cases hb
  refine ⟨h.me.keep hk hP (ne_true (fun e => h6 e.symm)) (ne_true (fun e => h4 e.symm)) (ne_true (by rw [← h2]; exact hi)), ?_⟩
  exact ⟨{ h1 with box := (hk.block _ (lt_of_block h1.box) (ne_true hbs)).trans h1.box, st := hs, inn := h1.inn.keep (hk.block _ h1.inn.lt (ne_true hi)), lt := hl }, h2, h3, h4, h5, h6, h7⟩
theorem P0_at {P : Nat → Bool} {B b : Nat} (hb : b < B) (hp : P b = true) : P0 P B b = true := by unfold P0; rw [hp]; simpa using hb
theorem r_bound (f : Nat → Nat) : ∀ l : List Nat, ∃ m, ∀ w ∈ l, f w < m
  | [] => ⟨0, fun w h => by cases h⟩
  | x :: l => by
    obtain ⟨m, hm⟩ := r_bound f l
    refine ⟨m + f x + 1, fun w hw => ?_⟩
    rcases List.mem_cons.1 hw with rfl | hw
    · omega
    · have := hm w hw; omega
def KeepEnd (P : Nat → Bool) (k k0 : Bk) (n0 : Nat) (e0 : Nat → Option Ty) (n : Nat) (g : Nat → Bool) (nm : Nat → Nat) (st : Nat → Option Ty) (r : Nat → Nat) (jl : List Nat) (w : World) (en : Ending) (w' : World) : Prop :=
  en = .returned (.tuple #[]) ∧ ∃ e0' e' stx, TBk P w' k (some (k0, n0, e0')) n e' g ∧ KpI n0 nm st r e0 jl e0' stx ∧ Kp (fun b => decide (b ≠ k.s ∧ b ≠ k0.s)) w w'
set_option maxRecDepth 100000 in
set_option maxHeartbeats 12800000 in
theorem keep_walk (P : Nat → Bool) (k k0 : Bk) (n0 : Nat) (e0 : Nat → Option Ty) (n : Nat) (e : Nat → Option Ty) (g : Nat → Bool) (nm : Nat → Nat) (st : Nat → Option Ty) (r : Nat → Nat) (jl : List Nat) (a : Option Addr) (c B0 : Nat) (w : World)
    (hT : TBk P w k (some (k0, n0, e0)) n e g) (hR : Rep (cmb (some (k0, n0, e0)) e) nm st) (hP : ∀ b, w.heap.size ≤ b → P b = true) (hn : n < 1000000000)
    (hask : ∀ stx : Nat → Option Ty, (∀ v, stx v = st v ∨ (v < n0 ∧ ∃ t, st v = some t ∧ stx v = some (inst (om n0 nm st r) t))) → om n0 nm stx r = om n0 nm st r ∧ (∀ v t, stx v = some t → ∀ w ∈ varsT t, r (nm w) < r v) ∧ (∀ v, v < n → n0 ≤ nm v → ∃ s, stx (nm v) = some s) ∧ (∀ v t, stx v = some t → mayT t = true ∧ ∀ w ∈ varsT t, w < n))
    (hmi : ∀ v t, v < n0 → st v = some t → mayT (inst (om n0 nm st r) t) = true)
    (hrow : w.ownsRow B0 3 1 (.slice a jl.length c) jl.length (ints (jl.map fun v => ((v : Nat) : Int)))) (hro : (Value.slice a jl.length c).ownBlock ≠ some k.s ∧ (Value.slice a jl.length c).ownBlock ≠ some k0.s) (hll : jl.length < 4000000000) (hl : ∀ x ∈ jl, x < n) (hnd : jl.Nodup) :
    Calls Tryd.prog 36 #[.pointer (some ⟨k.b, 0, none⟩), .slice a jl.length c] w (KeepEnd P k k0 n0 e0 n g nm st r jl w) := by
  have hup := hT.up
  have hlow := hT.all_low
  have HP := Lib.hid hP; have HN := Lib.hid hn; have HASK := Lib.hid hask; have HMI := Lib.hid hmi; have HROW := Lib.hid hrow; have HRO := Lib.hid hro; have HLL := Lib.hid hll; have HL := Lib.hid hl; have HND := Lib.hid hnd; have HLOW := Lib.hid hlow; have HTO := Lib.hid hT
  have HPF := Lib.hid (show (P k.b = false ∧ P k.s = false ∧ P k.i = false) ∧ P k0.b = false ∧ P k0.s = false from ⟨⟨hT.me.pb, hT.me.ps, hT.me.pi⟩, hT.upP _ rfl⟩)
  have HKS := Lib.hid (show k0.s ≠ k.s ∧ k0.b ≠ k.s ∧ k0.s ≠ k.b ∧ k0.b ≠ k0.s from ⟨hup.2.2.2.1, hup.2.2.2.2.1, hup.2.2.2.2.2.1, hup.1.bs⟩)
  have HST := Lib.hid hT; have HRP := Lib.hid hR
  have hlx : (jl.length : Int) < 4000000000 := by omega
  clear hup hlow hT hR hP hn hask hmi hrow hro hll hl hnd
  go_enter Tryd.func36, Tryd.ntmps36
  go_wp2_with (fail)
  go_loopw [9] (fun i wr => ∃ (j : Nat) (e0' e' stx : Nat → Option Ty), j ≤ jl.length ∧ i = .int .i64 j ∧ Hid (TBk P wr k (some (k0, n0, e0')) n e' g) ∧ Hid (Rep (cmb (some (k0, n0, e0')) e') nm stx) ∧ Hid (KpI n0 nm st r e0 (jl.take j) e0' stx) ∧ Hid (Kp (fun b => decide (b ≠ k.s ∧ b ≠ k0.s)) w wr)) (fun i _ => jl.length - (intOf i).toNat)
  case atStart => exact ⟨0, e0, e, st, Nat.zero_le _, rfl, HST, HRP, Lib.hid (by rw [List.take_zero]; exact KpI.start), Lib.hid (Kp.refl _ _)⟩
  case round =>
    obtain ⟨j, e0', e', stx, hj, rfl, HT, HR, HI, HK⟩ := hrel
    clear HST HRP
    by_cases hlt : j < jl.length
    · obtain ⟨x, hx⟩ : ∃ x, x = jl[j] := ⟨_, rfl⟩
      have hg := own_at HROW.out (by omega)
      obtain ⟨b, rfl, hb⟩ := hg
      have hbk : b ≠ k.s ∧ b ≠ k0.s := ⟨fun e => HRO.out.1 (by rw [← e]; rfl), fun e => HRO.out.2 (by rw [← e]; rfl)⟩
      have hbl : b < w.heap.size := (own_row_lt HROW.out rfl).1
      have hcx : wr.cell? ⟨b, j, none⟩ = some (.int .i64 ((x : Nat) : Int)) := (cell_same (HK.out.block b hbl (decide_eq_true hbk))).trans (row_cell HROW.out (by unfold ints; rw [List.getElem?_map, List.getElem?_map, List.getElem?_eq_getElem hlt, hx]; rfl))
      have hxl : x ∈ jl := by rw [hx]; exact List.getElem_mem _
      have htk : jl.take (j + 1) = jl.take j ++ [x] := by rw [List.take_add_one, List.getElem?_eq_getElem hlt, hx]; rfl
      have hxd : x ∉ jl.take j := fun hq => by
        have hd := HND.out
        rw [← List.take_append_drop j jl, List.nodup_append] at hd
        have hdp : x ∈ jl.drop j := by rw [List.mem_iff_getElem?]; exact ⟨0, by rw [List.getElem?_drop, List.getElem?_eq_getElem (by omega), hx]; rfl⟩
        exact hd.2.2 x hq x hdp rfl
      have hxn := HL.out x hxl
      have hsw := stand_walk P wr k (some (k0, n0, e0')) n e' g x HT.out (keyOk_of (by have := HN.out; omega))
      have HSW := Lib.hid hsw; have HXN := Lib.hid hxn; have HTK := Lib.hid htk; have HXD := Lib.hid hxd; have HJ := Lib.hid hlt
      clear hx hb hbk hbl hxl htk hxd hxn hsw
      go_wp2_with (fail)
      refine HSW.out.mono ?_
      rintro en w1 ⟨h, q, lk, ck, rfl, hty, hb1⟩
      have hb2 := al_new (W := w1) (.cells #[.int .u8 h.k, .int .i64 h.v, .slice q lk ck] 25)
      have hbb : Below wr.heap.size wr (w1.alloc (.cells #[.int .u8 h.k, .int .i64 h.v, .slice q lk ck] 25)) := hb1.alloc hb1.size _
      have HTY := Lib.hid ((Kp.of_below (P := P) hbb).ty hty)
      have HT2 := Lib.hid (HT.out.below hbb); have HK2' := Lib.hid (HK.out.trans (Kp.of_below hbb)); have HX2 := Lib.hid (heap_alloc_new w1 (.cells #[.int .u8 h.k, .int .i64 h.v, .slice q lk ck] 25))
      have HZ2 := Lib.hid (show (w1.alloc (.cells #[.int .u8 h.k, .int .i64 h.v, .slice q lk ck] 25)).heap.size = w1.heap.size + 1 by simp); have HS1 := Lib.hid (Nat.le_trans HK.out.size hb1.size)
      clear hty hb1 hb2 hbb hcx HSW HT HK
      cases hcm : cmb (some (k0, n0, e0')) e' x with
      | none =>
        have hty := HTY.out
        rw [hcm] at hty
        have hk0 : h.k = 0 := by rw [← hty.head]; rfl
        have HI2 := Lib.hid (show KpI n0 nm st r e0 (jl.take (j + 1)) e0' stx by rw [HTK.out]; exact HI.out.skip HR.out HXD.out (.inr hcm))
        have hq : (h.k != 0) = false := by rw [hk0]; rfl
        clear hty hk0 hcm
        go_wp2_with (fail)
        go_roundw
        case rel => exact ⟨j + 1, e0', e', stx, by omega, by go_num, HT2, HR, HI2, HK2'⟩
        case measure => simp [intOf]; omega
      | some t =>
        have hty := HTY.out
        rw [hcm] at hty
        have hty : TyIs (veil P (w1.alloc (.cells #[.int .u8 h.k, .int .i64 h.v, .slice q lk ck] 25))) h q lk ck t := hty
        have hq : (h.k != 0) = true := by
          have := may_kind (HR.out.may x t hcm)
          rw [show t.h = h from hty.head] at this
          simpa using this
        have HTY2 := Lib.hid hty; have HCM := Lib.hid hcm
        clear hty hcm HTY
        have how := own_walk P k k0 n n0 e' e0' g x (w1.alloc (.cells #[.int .u8 h.k, .int .i64 h.v, .slice q lk ck] 25)) HT2.out
        have HOW := Lib.hid how
        obtain ⟨⟨y0, y1, y2⟩, -, yl⟩ := c3 HX2.out
        clear how
        go_upto_region 4 with (fail)
        generalize hw2 : w1.alloc (.cells #[.int .u8 h.k, .int .i64 h.v, .slice q lk ck] 25) = w2 at *
        clear hw2
        go_wp2_with (fail)
        refine HOW.out.mono ?_
        rintro en w2 ⟨rfl, rfl⟩
        clear HOW
        by_cases hown : n0 ≤ x
        · rw [decide_eq_true hown]
          have HI2 := Lib.hid (show KpI n0 nm st r e0 (jl.take (j + 1)) e0' stx by rw [HTK.out]; exact HI.out.skip HR.out HXD.out (.inl hown))
          clear hown hq
          go_wp2_with (fail)
          go_roundw
          case rel => exact ⟨j + 1, e0', e', stx, by omega, by go_num, HT2, HR, HI2, HK2'⟩
          case measure => simp [intOf]; omega
        · rw [decide_eq_false hown]
          have HOWN := Lib.hid hown
          clear hown hq
          go_upto_region 5 with (fail)
          clear y0 y1 y2 yl
          refine wp_region_held_drew (S := fun (V : World) => V.heap[k.b]? = w2.heap[k.b]? ∧ V.heap[k0.b]? = w2.heap[k0.b]? ∧ V.heap[w1.heap.size]? = w2.heap[w1.heap.size]?) (by kernel_rfl) ⟨rfl, rfl, rfl⟩ (fun hHeld => ?_)
          refine wpAnyH_take (i := 0) (v := .pointer (some ⟨k.b, 0, none⟩)) rfl (by kernel_rfl) (by kernel_rfl) (by kernel_rfl) (fun _ _ _ h => h) (Or.inl ⟨by rfl, ?_⟩) (by assumption) ?_
          · intro w' hSw
            first | (go_simp; done) | (go_simp; intro h0; omega) | rfl
          try simp only [Act.put, List.getElem_toArray, List.getElem_cons_succ, List.getElem_cons_zero, List.setIfInBounds_toArray, List.set_cons_zero, List.set_cons_succ]
          refine wpAnyH_take (i := 1) (v := .pointer (some ⟨k.b, 0, none⟩)) rfl (by kernel_rfl) (by kernel_rfl) (by kernel_rfl) (fun _ _ _ h => h) (Or.inl ⟨by rfl, ?_⟩) (by assumption) ?_
          · intro w' hSw
            obtain ⟨y0, y1, y2, y3, yl⟩ := bkc (hSw.1.trans HT2.out.me.box)
            have y0' : w'.cell? ⟨k.b, 0, none⟩ = some (.pointer (some ⟨k0.b, 0, none⟩)) := y0
            clear y0
            first | (go_simp; done) | (go_simp; intro h0; omega) | rfl
          try simp only [Act.put, List.getElem_toArray, List.getElem_cons_succ, List.getElem_cons_zero, List.setIfInBounds_toArray, List.set_cons_zero, List.set_cons_succ]
          refine wpAnyH_take (i := 2) (v := .pointer (some ⟨k.b, 0, none⟩)) rfl (by kernel_rfl) (by kernel_rfl) (by kernel_rfl) (fun _ _ _ h => h) (Or.inl ⟨by rfl, ?_⟩) (by assumption) ?_
          · intro w' hSw
            first | (go_simp; done) | (go_simp; intro h0; omega) | rfl
          try simp only [Act.put, List.getElem_toArray, List.getElem_cons_succ, List.getElem_cons_zero, List.setIfInBounds_toArray, List.set_cons_zero, List.set_cons_succ]
          refine wpAnyH_take (i := 3) (v := .pointer (some ⟨k0.b, 0, none⟩)) rfl (by kernel_rfl) (by kernel_rfl) (by kernel_rfl) (fun _ _ _ h => h) (Or.inl ⟨by rfl, ?_⟩) (by assumption) ?_
          · intro w' hSw
            obtain ⟨y0, y1, y2, y3, yl⟩ := bkc (hSw.1.trans HT2.out.me.box)
            have y0' : w'.cell? ⟨k.b, 0, none⟩ = some (.pointer (some ⟨k0.b, 0, none⟩)) := y0
            clear y0
            first | (go_simp; done) | (go_simp; intro h0; omega) | rfl
          try simp only [Act.put, List.getElem_toArray, List.getElem_cons_succ, List.getElem_cons_zero, List.setIfInBounds_toArray, List.set_cons_zero, List.set_cons_succ]
          refine wpAnyH_take (i := 4) (v := .pointer (some ⟨k0.b, 0, none⟩)) rfl (by kernel_rfl) (by kernel_rfl) (by kernel_rfl) (fun _ _ _ h => h) (Or.inl ⟨by rfl, ?_⟩) (by assumption) ?_
          · intro w' hSw
            obtain ⟨y0, y1, y2, y3, yl⟩ := bkc (hSw.2.1.trans HT2.out.up.1.box)
            first | (go_simp; done) | (go_simp; intro h0; omega) | rfl
          try simp only [Act.put, List.getElem_toArray, List.getElem_cons_succ, List.getElem_cons_zero, List.setIfInBounds_toArray, List.set_cons_zero, List.set_cons_succ]
          refine wpAnyH_take (i := 5) (v := .pointer (some ⟨k0.b, 2, none⟩)) rfl (by kernel_rfl) (by kernel_rfl) (by kernel_rfl) (fun _ _ _ h => h) (Or.inl ⟨by rfl, ?_⟩) (by assumption) ?_
          · intro w' hSw
            first | (go_simp; done) | (go_simp; intro h0; omega) | rfl
          try simp only [Act.put, List.getElem_toArray, List.getElem_cons_succ, List.getElem_cons_zero, List.setIfInBounds_toArray, List.set_cons_zero, List.set_cons_succ]
          refine wpAnyH_take (i := 6) (v := .map (some k0.s)) rfl (by kernel_rfl) (by kernel_rfl) (by kernel_rfl) (fun _ _ _ h => h) (Or.inl ⟨by rfl, ?_⟩) (by assumption) ?_
          · intro w' hSw
            obtain ⟨y0, y1, y2, y3, yl⟩ := bkc (hSw.2.1.trans HT2.out.up.1.box)
            first | (go_simp; done) | (go_simp; intro h0; omega) | rfl
          try simp only [Act.put, List.getElem_toArray, List.getElem_cons_succ, List.getElem_cons_zero, List.setIfInBounds_toArray, List.set_cons_zero, List.set_cons_succ]
          refine wpAnyH_take (i := 7) (v := .int .i64 (x : Int)) rfl (by kernel_rfl) (by kernel_rfl) (by kernel_rfl) (fun _ _ _ h => h) (Or.inl ⟨by rfl, ?_⟩) (by assumption) ?_
          · intro w' hSw
            first | (go_simp; done) | (go_simp; intro h0; omega) | rfl
          try simp only [Act.put, List.getElem_toArray, List.getElem_cons_succ, List.getElem_cons_zero, List.setIfInBounds_toArray, List.set_cons_zero, List.set_cons_succ]
          refine wpAnyH_take (i := 8) (v := .pointer (some ⟨k.b, 0, none⟩)) rfl (by kernel_rfl) (by kernel_rfl) (by kernel_rfl) (fun _ _ _ h => h) (Or.inl ⟨by rfl, ?_⟩) (by assumption) ?_
          · intro w' hSw
            first | (go_simp; done) | (go_simp; intro h0; omega) | rfl
          try simp only [Act.put, List.getElem_toArray, List.getElem_cons_succ, List.getElem_cons_zero, List.setIfInBounds_toArray, List.set_cons_zero, List.set_cons_succ]
          refine wpAnyH_take (i := 9) (v := .agg #[.int .u8 h.k, .int .i64 h.v, .slice q lk ck]) rfl (by kernel_rfl) (by kernel_rfl) (by kernel_rfl) (fun _ _ _ h => h) (Or.inl ⟨by rfl, ?_⟩) (by assumption) ?_
          · intro w' hSw
            obtain ⟨⟨y0, y1, y2⟩, -, yl⟩ := c3 (hSw.2.2.trans HX2.out)
            first | (go_simp; done) | (go_simp; intro h0; omega) | rfl
          try simp only [Act.put, List.getElem_toArray, List.getElem_cons_succ, List.getElem_cons_zero, List.setIfInBounds_toArray, List.set_cons_zero, List.set_cons_succ]
          refine wpAnyH_ready (rs := [10]) (by kernel_rfl) (by simp) ?_
          refine AllReadyH.cons rfl (fun K hK => ?_) AllReadyH.nil
          have HK2 := Lib.hid hK
          clear hK
          try rw [if_pos (by rfl)]
          go_simp
          obtain ⟨hom, hac, hno, hst⟩ := HASK.out stx HI.out.sd
          have htm := HR.out.may x t HCM.out
          have htv : ∀ y ∈ varsT t, y < n := fun y hy => by
            by_cases hk5 : t.h.k = 5
            · have hxt := is_var htm hk5
              rw [hxt] at hy
              rw [vars_var, List.mem_singleton] at hy
              rw [hxt] at HCM
              have := (HR.out.link x _ HCM.out).1
              have := HXN.out
              omega
            · exact (hst x t (HR.out.type x t HCM.out hk5).2).2 y hy
          obtain ⟨m, hm⟩ := r_bound (fun y => r (nm y)) (varsT t)
          have hlow2 : ∀ b, P b = false → P0 P w2.heap.size b = false := fun b hb => P0_false hb
          have hT0 : TBk (P0 P w2.heap.size) w2 k (some (k0, n0, e0')) n e' g := HT2.out.reP (P0_reads P w2) (hlow2 _ HPF.out.1.1) (hlow2 _ HPF.out.1.2.1) (hlow2 _ HPF.out.1.2.2) fun x hx => by cases hx; exact ⟨hlow2 _ HPF.out.2.1, hlow2 _ HPF.out.2.2⟩
          have hty0 : TyIs (veil (P0 P w2.heap.size) w2.drew) h q lk ck t := HTY2.out.reads' (veil_to (P' := P0 P w2.heap.size) (W' := w2.drew) fun b hb hp => ⟨(P0_at hb hp), rfl⟩)
          refine (whole_walk (P0 P w2.heap.size) k k0 n0 e0' n g nm stx r hac hno hst m t htm (fun y hy => ⟨htv y hy, hm y hy⟩) e' h q lk ck w2.drew (hT0.below ⟨rfl, rfl, rfl, Nat.le_refl _, fun _ _ => rfl⟩) HR.out hty0 (fun b hb => P0_new hb)).mono ?_
          rintro en w4 ⟨h', q', l', c', e4, rfl, hty4, hT4, hR4, hk4⟩
          replace hk4 : Kp (fun b => decide (b ≠ k.s)) w2 w4 := ⟨hk4.os, hk4.tape, hk4.output, hk4.size, hk4.block⟩
          have hT5 : TBk P w4 k (some (k0, n0, e0')) n e4 g := hT4.reP (P0_back w4) HPF.out.1.1 HPF.out.1.2.1 HPF.out.1.2.2 fun x hx => by cases hx; exact HPF.out.2
          have hty5 : TyIs (veil P w4) h' q' l' c' (inst (om n0 nm stx r) t) := hty4.reads' (veil_to (P' := P) (W' := w4) fun b hb hp => ⟨HP.out b (by have : w2.heap.size ≤ b := of_decide_eq_true hp; have := HS1.out; have := HZ2.out; omega), rfl⟩)
          have hkb : k.b ≠ k.s := HT2.out.me.bs
          have HS4 := Lib.hid (show w4.heap[k.b]? = w2.heap[k.b]? ∧ w4.heap[k0.b]? = w2.heap[k0.b]? ∧ w4.heap[w1.heap.size]? = w2.heap[w1.heap.size]? from ⟨hk4.block _ (lt_of_block HT2.out.me.box) (ne_true hkb), hk4.block _ (lt_of_block HT2.out.up.1.box) (ne_true HKS.out.2.1), hk4.block _ (lt_of_block HX2.out) (ne_true (by have := HLOW.out.1; have := HS1.out; omega))⟩)
          have HT5 := Lib.hid hT5; have HTY5 := Lib.hid hty5; have HR4 := Lib.hid hR4; have HK4 := Lib.hid (HK2'.out.trans (hk4.mono (P' := fun b => decide (b ≠ k.s ∧ b ≠ k0.s)) fun b hb => decide_eq_true (of_decide_eq_true hb).1))
          have HOM := Lib.hid hom; have HTM := Lib.hid htm
          clear hom hac hno hst htm htv hm hlow2 hT0 hty0 hty4 hT4 hR4 hk4 hT5 hty5 hkb
          refine HK2.out _ _ HS4.out (fun hHeld => ?_)
          clear HK2
          try simp only [Act.put, List.getElem_toArray, List.getElem_cons_succ, List.getElem_cons_zero, List.setIfInBounds_toArray, List.set_cons_zero, List.set_cons_succ]
          clear K
          refine wpAnyH_ready (rs := [11]) (by kernel_rfl) (by simp) ?_
          refine AllReadyH.cons rfl (fun K hK => ?_) AllReadyH.nil
          have HK2 := Lib.hid hK
          clear hK
          try rw [if_pos (by rfl)]
          obtain ⟨F, hM, hF⟩ := HT5.out.up.1.st
          have hFn : ∀ i, KeyOk i → F i ≠ none → i < n0 := fun i _ hi => by
            rcases hF i with ⟨_, b⟩ | ⟨t, _, _, _, _, a, _⟩
            · exact absurd b hi
            · exact HT5.out.up.1.lt i t a
          have hnn : n0 ≤ n := HT5.out.up.2.2.2.2.2.2
          refine wp_store 56 25 Tryd.underlying56 k0.s n0 x F (.agg #[.int .u8 h'.k, .int .i64 h'.v, .slice q' l' c']) rfl rfl rfl hM hFn (by have := HN.out; unfold maxLen; omega) (keyOk_of (by have := HN.out; have := HOWN.out; omega)) (fun w5 hm hg hs => ?_)
          have hoff : ∀ b, b ≠ k0.s → w5.heap[b]? = w4.heap[b]? := fun b hb => store_off hg hs hb
          have hkp : Kp (fun b => decide (b ≠ k0.s)) w4 w5 := ⟨hg.os, hg.tape, hg.output, Nat.le_of_eq hs.symm, fun b hb hp => hoff b (of_decide_eq_true hp)⟩
          have hT6 := HT5.out.putU hkp (StAt.put hF HTY5.out hm (veil_kp HPF.out.2.2 hkp).reads) (fun v t hvt => by
            by_cases e : v = x
            · have := HOWN.out; omega
            · rw [upd_other _ _ e] at hvt; exact HT5.out.up.1.lt v t hvt)
          have hcm4 : cmb (some (k0, n0, e0')) e4 x = some t ∨ ∃ y, cmb (some (k0, n0, e0')) e4 x = some (tyV y) ∧ t.h.k = 5 := by
            by_cases hk5 : t.h.k = 5
            · right
              have hxt := is_var HTM.out hk5
              have h0 := HCM.out
              rw [hxt] at h0
              obtain ⟨q1, q2, q3⟩ := HR.out.link x _ h0
              rcases HR4.out.cases x with ⟨_, b, _⟩ | ⟨y, b, _⟩ | ⟨s, _, _, _, b, _⟩
              · have := HR.out.le (t.h.v.toNat); omega
              · exact ⟨y, b, hk5⟩
              · have := HR.out.le (t.h.v.toNat); omega
            · left
              obtain ⟨q1, q2⟩ := HR.out.type x t HCM.out hk5
              rw [HR4.out.at q1]; exact q2
          have hstep : ∃ stx', KpI n0 nm st r e0 (jl.take j ++ [x]) (upd e0' x (some (inst (om n0 nm stx r) t))) stx' ∧ Rep (cmb (some (k0, n0, upd e0' x (some (inst (om n0 nm stx r) t)))) e4) nm stx' := by
            have hxn0 : x < n0 := by have := HOWN.out; omega
            rcases hcm4 with hc | ⟨y, hc, hk5⟩
            · refine HI.out.step HR4.out hxn0 HXD.out hc HOM.out fun hk5 => HMI.out x t hxn0 ?_
              rw [← HI.out.sx x HXD.out]
              exact (HR.out.type x t HCM.out hk5).2
            · have hT' : inst (om n0 nm stx r) t = inst (om n0 nm stx r) (tyV y) := by
                have hxt := is_var HTM.out hk5
                have h0 := HCM.out
                rw [hxt] at h0 ⊢
                obtain ⟨q1, q2, _⟩ := HR.out.link x _ h0
                obtain ⟨p1, p2, _⟩ := HR4.out.link x y hc
                have l1 := HR.out.le (t.h.v.toNat)
                have l2 := HR.out.le y
                rw [inst_var, inst_var, om_under (by omega), om_under (by omega), ← q2, ← p2]
              rw [hT']
              exact HI.out.step HR4.out hxn0 HXD.out hc HOM.out fun hk5' => absurd rfl hk5'
          rw [← HTK.out] at hstep
          have HT6 := Lib.hid hT6; have HSTEP := Lib.hid hstep
          have HK6 := Lib.hid (HK4.out.trans (hkp.mono (P' := fun b => decide (b ≠ k.s ∧ b ≠ k0.s)) fun b hb => decide_eq_true (of_decide_eq_true hb).2))
          have HS6 := Lib.hid (show w5.heap[k.b]? = w2.heap[k.b]? ∧ w5.heap[k0.b]? = w2.heap[k0.b]? ∧ w5.heap[w1.heap.size]? = w2.heap[w1.heap.size]? from ⟨(hoff _ (fun e => HKS.out.2.2.1 e.symm)).trans HS4.out.1, (hoff _ HKS.out.2.2.2).trans HS4.out.2.1, (hoff _ (by have := HLOW.out.2 _ rfl; have := HS1.out; have h9 : k0.s < w.heap.size := (HLOW.out.2 _ rfl).2; omega)).trans HS4.out.2.2⟩)
          clear hM hF hFn hm hg hs hoff hkp hT6 hcm4 hstep hnn
          refine HK2.out _ _ HS6.out (fun hHeld => ?_)
          clear HK2
          try simp only [Act.put, List.getElem_toArray, List.getElem_cons_succ, List.getElem_cons_zero, List.setIfInBounds_toArray, List.set_cons_zero, List.set_cons_succ]
          clear K
          refine wpAnyH_done (by kernel_rfl) ?_ _
          clear hHeld
          obtain ⟨stx', hI6, hR6⟩ := HSTEP.out
          have HI6 := Lib.hid hI6; have HR6 := Lib.hid hR6
          clear hI6 hR6
          go_wp2_with (fail)
          go_roundw
          case rel => exact ⟨j + 1, _, e4, stx', by omega, by go_num, HT6, HR6, HI6, HK6⟩
          case measure => simp [intOf]; omega
    · obtain rfl : j = jl.length := by omega
      have hi := HI.out
      rw [List.take_length] at hi
      have HFIN := Lib.hid (show KeepEnd P k k0 n0 e0 n g nm st r jl w (.returned (.tuple #[])) wr from ⟨rfl, e0', e', stx, HT.out, hi, HK.out⟩)
      clear hi
      go_wp2_with (fail)
      exact bodyPost_end (results_none rfl _ _ _) rfl HFIN.out
end Types
end Go.Proofs.YtjchplgapaeagaaDoor
namespace Go.Proofs.YtjchplgapaeagaaDoor
open Go.RowKit
set_option linter.unusedVariables false
set_option linter.unusedSimpArgs false
namespace Types

theorem BkAt.reP {P P' : Nat → Bool} {w : World} {k : Bk} {up : Option Addr} {n : Nat} {e : Nat → Option Ty} {g : Nat → Bool} (h : BkAt P w k up n e g) (hr : Reads (veil P w) (veil P' w)) (h1 : P' k.b = false) (h2 : P' k.s = false) (h3 : P' k.i = false) : BkAt P' w k up n e g :=
  { h with st := h.st.reP hr, pb := h1, ps := h2, pi := h3 }
def JoinEnd (P : Nat → Bool) (k : Bk) (n : Nat) (nm : Nat → Nat) (st : Nat → Option Ty) (r : Nat → Nat) (ts : List Ty) (w : World) (en : Ending) (w' : World) : Prop :=
  Kp (fun b => decide (b ≠ k.s ∧ b ≠ k.i)) w w' ∧
    ((en = .returned (.bool false) ∧ (∃ e' g', TBk P w' k none n e' g' ∧ Rep e' nm st ∧ Bo n nm st g' r) ∧ ((ts.any fun s => !hasB n s) = true ∨ ∀ θ, ¬ (SolA nm st θ ∧ AllOne ts θ))) ∨
     (en = .returned (.bool true) ∧ (ts.any fun s => !hasB n s) = false ∧ ∃ e' g' nm' st' r', TBk P w' k none n e' g' ∧ Rep e' nm' st' ∧ Bo n nm' st' g' r' ∧ (∀ θ, SolA nm' st' θ ↔ SolA nm st θ ∧ AllOne ts θ) ∧ sumN n (wT st') ≤ n + sumN n (wT st) + nvK ts))
theorem has_facts {n : Nat} {t : Ty} (h : hasB n t = true) : mayT t = true ∧ ∀ v ∈ varsT t, v < n := by
  unfold hasB at h
  obtain ⟨h1, h2⟩ := Bool.and_eq_true_iff.1 h
  refine ⟨h1, fun v hv => ?_⟩
  rw [ev_vars t h1] at h2
  have := of_decide_eq_true (List.all_eq_true.1 h2 _ (List.mem_map.2 ⟨v, hv, rfl⟩))
  omega
set_option maxRecDepth 100000 in
set_option maxHeartbeats 12800000 in
theorem join_walk (P : Nat → Bool) (k : Bk) (n : Nat) (e : Nat → Option Ty) (g : Nat → Bool) (nm : Nat → Nat) (st : Nat → Option Ty) (r : Nat → Nat) (ts : List Ty) (p : Option Addr) (l d : Nat) (w : World)
    (hT : TBk P w k none n e g) (hR : Rep e nm st) (hb : Bo n nm st g r) (hP : ∀ b, w.heap.size ≤ b → P b = true) (hK : Kids w p ts) (hKP : Kids (veil P w) p ts) (hl : ts.length = l) (hkl : KidsLaid w) (hbud : n + sumN n (wT st) + nvK ts + l + 8 < 400000000) :
    Calls Tryd.prog 17 #[.pointer (some ⟨k.b, 0, none⟩), .slice p l d] w (JoinEnd P k n nm st r ts w) := by
  have hb1 := al_new (W := w) (.cells #[.pointer (some ⟨k.b, 0, none⟩)] 28)
  have hx1 := heap_alloc_new w (.cells #[.pointer (some ⟨k.b, 0, none⟩)] 28)
  have hlow := hT.all_low.1
  have hlm : l ≤ maxLen := by unfold maxLen; omega
  have hcw := contains_walk k none n ts p l d w.heap.size (w.alloc (.cells #[.pointer (some ⟨k.b, 0, none⟩)] 28)) hx1 ((hb1.block _ (lt_of_block hT.me.box)).trans hT.me.box) (hK.stay hb1) hl hlm (hkl.below hb1)
  have HB1 := Lib.hid hb1; have HX1 := Lib.hid hx1; have HCW := Lib.hid hcw; have HT := Lib.hid hT; have HR := Lib.hid hR; have HB := Lib.hid hb; have HP := Lib.hid hP; have HKP := Lib.hid hKP; have HL := Lib.hid hl; have HBUD := Lib.hid hbud; have HLOW := Lib.hid hlow; have HLM := Lib.hid hlm
  clear hb1 hx1 hlow hlm hcw hT hR hb hP hK hKP hl hkl hbud
  go_enter Tryd.func17, Tryd.ntmps17
  go_wp2_with (fail)
  refine HCW.out.mono ?_
  rintro en w2 ⟨rfl, hb2⟩
  have hbb : Below w.heap.size w w2 := HB1.out.trans (hb2.mono HB1.out.size)
  have hx2 := (hb2.block _ (lt_of_block HX1.out)).trans HX1.out
  have HBB := Lib.hid hbb; have HX2 := Lib.hid hx2; have HT2 := Lib.hid (HT.out.below hbb)
  clear hbb hx2 hb2 HCW
  cases hany : (ts.any fun s => !hasB n s) with
  | true =>
    have HFIN := Lib.hid (show JoinEnd P k n nm st r ts w (.returned (.bool false)) w2 from ⟨Kp.of_below HBB.out, .inl ⟨rfl, ⟨e, g, HT2.out, HR.out, HB.out⟩, .inl hany⟩⟩)
    clear hany
    go_wp2_with (fail)
    exact bodyPost_ret (by simp [results, Tryd.results17, go_sem]) rfl HFIN.out
  | false =>
    have hhas : ∀ s ∈ ts, mayT s = true ∧ ∀ v ∈ varsT s, v < n := fun s hs => by
      refine has_facts ?_
      cases hh : hasB n s with
      | true => rfl
      | false =>
        have : (ts.any fun s => !hasB n s) = true := List.any_eq_true.2 ⟨s, hs, by rw [hh]; rfl⟩
        rw [hany] at this; cases this
    have htw := trial_walk P k n e g nm st ts p l d w2 HT2.out HR.out ((Kp.of_below (P := P) HBB.out).kids HKP.out) HL.out HLM.out (fun s hs => (hhas s hs).1) (fun s hs => (hhas s hs).2)
    have HTW := Lib.hid htw; have HHAS := Lib.hid hhas; have HANY := Lib.hid hany
    obtain ⟨y0, -, yl⟩ := c1 HX2.out
    clear hhas htw hany
    go_wp2_with (fail)
    refine HTW.out.mono ?_
    rintro en w3 ⟨s, e3, rfl, hs2, hsz3, hT3, hR3, hk3⟩
    obtain ⟨Q, hQ⟩ : ∃ Q : Nat → Bool, Q = fun b => if b < s then P b else decide (s + 2 ≤ b) := ⟨_, rfl⟩
    have hws : w.heap.size ≤ s := Nat.le_trans HBB.out.size hs2
    have hQP : ∀ b, Q b = true → P b = true := fun b hb => by
      rw [hQ] at hb
      have hb : (if b < s then P b else decide (s + 2 ≤ b)) = true := hb
      split at hb
      · exact hb
      · exact HP.out b (by omega)
    have hQ1 : ∀ x, x < s → Q x = P x := fun x hx => by rw [hQ]; exact if_pos hx
    have hQ2 : ∀ b, w3.heap.size ≤ b → Q b = true := fun b hb => by
      rw [hQ]; show (if b < s then P b else decide (s + 2 ≤ b)) = true
      rw [if_neg (by omega)]; exact decide_eq_true (by omega)
    have hQs : Q s = false ∧ Q (s + 1) = false := by
      rw [hQ]
      exact ⟨by show (if s < s then P s else decide (s + 2 ≤ s)) = false; rw [if_neg (by omega)]; exact decide_eq_false (by omega), by show (if s + 1 < s then P (s + 1) else decide (s + 2 ≤ s + 1)) = false; rw [if_neg (by omega)]; exact decide_eq_false (by omega)⟩
    have hQF : ∀ b, P b = false → Q b = false := fun b hb => by
      cases h : Q b with
      | false => rfl
      | true => rw [hQP b h] at hb; cases hb
    have hTQ := hT3 Q hQ1 hQs.1 hQs.2
    have hkw3 : Kp (fun b => decide (b ≠ k.s ∧ b ≠ k.i)) w w3 := (Kp.of_below HBB.out).trans hk3
    have hKQ : Kids (veil Q w3) p ts := HKP.out.reads' (veil_to (P' := Q) (W' := w3) fun b hb hp => ⟨by rw [hQ1 b (by omega)]; exact hp, hkw3.block b hb (decide_eq_true ⟨fun e => (by subst e; rw [HT.out.me.ps] at hp; cases hp), fun e => (by subst e; rw [HT.out.me.pi] at hp; cases hp)⟩)⟩)
    have hmk : ∀ u ∈ ts, mayT u = true ∧ (∀ w ∈ varsT u, w < n) ∧ (u.h.k ≠ 5 → ∀ w ∈ varsT u, marks nm g ts (nm w) = true) := fun u hu => by
      refine ⟨(HHAS.out u hu).1, (HHAS.out u hu).2, fun hk v hv => ?_⟩
      rw [varsT_eq, if_neg hk, List.nil_append] at hv
      refine marks_in nm ts g u (v : Int) hu ?_
      rw [evK_vars u.ks fun x hx => may_mem (HHAS.out u hu).1 hx]
      exact List.mem_map.2 ⟨v, hv, rfl⟩
    obtain ⟨bud, hbud⟩ : ∃ bud, bud = n + sumN n (wT st) + nvK ts := ⟨_, rfl⟩
    have hsO := sO_wT (N := n) (st := st)
    have hsw := same_walk Q (⟨s + 1, s, k.i⟩ : Bk) k n e3 (marks nm g ts) nm st r ts p l d bud w3 hTQ hR3 (HB.out.more fun v hv => marks_more nm ts g v hv) hKQ HL.out hmk (by omega) (by have := HBUD.out; omega) hQ2
    have HSW := Lib.hid hsw; have HQP := Lib.hid hQP; have HQF := Lib.hid hQF; have HQ2 := Lib.hid hQ2; have HQS := Lib.hid hQs; have HR3 := Lib.hid hR3; have HK3 := Lib.hid hkw3; have HS2 := Lib.hid (And.intro hws hsz3); have HBD := Lib.hid hbud
    have HVV := Lib.hid (show ∀ s ∈ ts, ∀ w ∈ varsT s, w < n from fun u hu => (hmk u hu).2.1)
    have HBF := Lib.hid (show ∀ (W : World) (N4 : Nat) (e4 : Nat → Option Ty) (g4 : Nat → Bool) (e5 : Nat → Option Ty), TBk Q W (⟨s + 1, s, k.i⟩ : Bk) (some (k, n, e5)) N4 e4 g4 → TBk P W k none n e5 g4 from fun W N4 e4 g4 e5 h => ⟨h.up.1.reP (veil_to fun b hb hp => ⟨hQP b hp, rfl⟩) HT.out.me.pb HT.out.me.ps HT.out.me.pi, trivial⟩)
    have HKF := Lib.hid (show ∀ W, Kp (fun b => decide (b ≠ (⟨s + 1, s, k.i⟩ : Bk).b ∧ b ≠ (⟨s + 1, s, k.i⟩ : Bk).s ∧ b ≠ (⟨s + 1, s, k.i⟩ : Bk).i)) w3 W → Kp (fun b => decide (b ≠ k.s ∧ b ≠ k.i)) w W from fun W h => ⟨h.os.trans hkw3.os, h.tape.trans hkw3.tape, h.output.trans hkw3.output, Nat.le_trans hkw3.size h.size, fun b hb hp => (h.block b (Nat.lt_of_lt_of_le hb hkw3.size) (decide_eq_true ⟨by show b ≠ s + 1; omega, by show b ≠ s; omega, (of_decide_eq_true hp).2⟩)).trans (hkw3.block b hb hp)⟩)
    clear hQ hws hQP hQ1 hQ2 hQs hQF hTQ hkw3 hKQ hmk hbud hsO hsw hs2 hsz3 hT3 hR3 hk3 HTW y0 yl
    go_wp2_with (fail)
    refine HSW.out.mono ?_
    rintro en w4 ⟨N, e4, g4, hT4, hk4, hmore, hor⟩
    have HT4 := Lib.hid hT4; have HK4 := Lib.hid hk4; have HBO4 := Lib.hid (show Bo n nm st g4 r from (HB.out.more fun v hv => marks_more nm ts g v hv).more hmore)
    clear hT4 hk4 hmore HSW
    rcases hor with ⟨rfl, hno⟩ | ⟨a, c, js, joined, nm4, st4, O, par, pos, rfl, hown, hnd, hmem, hsm⟩
    · have HFIN := Lib.hid (show JoinEnd P k n nm st r ts w (.returned (.bool false)) w4 from ⟨HKF.out w4 HK4.out, .inl ⟨rfl, ⟨e3, g4, HBF.out _ _ _ _ _ HT4.out, HR3.out, HBO4.out⟩, .inr hno⟩⟩)
      clear hno
      go_wp2_with (fail)
      exact bodyPost_ret (by simp [results, Tryd.results17, go_sem]) rfl HFIN.out
    · obtain ⟨hjs, hjm, hjd⟩ := int_list hmem
      obtain ⟨jl, hjl⟩ : ∃ jl, jl = js.map Int.toNat := ⟨_, rfl⟩
      rw [← hjl] at hjs hjm hjd
      have hlen : js.length = jl.length := by rw [hjl, List.length_map]
      rw [hlen, hjs] at hown
      rw [hlen]
      have htot := hsm.tot
      have hNb : N ≤ bud := by have := hsm.bud; omega
      have hbb := HBUD.out
      have hbe := HBD.out
      have hst4 : ∀ v t, st4 v = some t → mayT t = true ∧ ∀ x ∈ varsT t, x < N := fun v t hv => by
        obtain ⟨_, _, q1, _, q2⟩ := hsm.tri.name v t hv
        exact ⟨q1, fun x hx => (q2 x hx).1⟩
      have hjlt : ∀ x ∈ jl, x < N := fun x hx => hsm.jlt x ((hjm x).1 hx)
      have hjN : jl.length ≤ N := nodup_few (hjd hnd) hjlt
      have hoc := names_few (N := N) (nm := nm4) (fun v t hv => (hst4 v t hv).1)
      have hP0 : TBk (P0 Q w4.heap.size) w4 (⟨s + 1, s, k.i⟩ : Bk) (some (k, n, e3)) N e4 g4 := HT4.out.reP (P0_reads Q w4) (P0_false HT4.out.me.pb) (P0_false HT4.out.me.ps) (P0_false HT4.out.me.pi) fun x hx => ⟨P0_false (HT4.out.upP x hx).1, P0_false (HT4.out.upP x hx).2⟩
      have hfw := finite_walk (P0 Q w4.heap.size) (⟨s + 1, s, k.i⟩ : Bk) k n e3 N e4 g4 nm4 st4 jl a c w3.heap.size w4 hP0 hsm.rep hst4 (fun b hb => P0_new hb) (by omega) hown (by omega) hjlt (by omega)
      have HFW := Lib.hid hfw; have HSM := Lib.hid hsm; have HJM := Lib.hid (And.intro hjm (And.intro (hjd hnd) hjlt)); have HOWN := Lib.hid hown; have HNB := Lib.hid (And.intro hNb hjN); have HTOT := Lib.hid htot; have HST4 := Lib.hid hst4
      have HAL := Lib.hid (allOne_congr HVV.out)
      clear hmem hnd hsm hjs hjm hjd hjl hlen hown htot hNb hbb hbe hst4 hjlt hjN hoc hP0 hfw
      go_wp2_with (fail)
      refine HFW.out.mono ?_
      rintro en w5 ⟨⟨e5, hT5, hR5⟩, hk5, hor⟩
      have hT5Q : TBk Q w5 (⟨s + 1, s, k.i⟩ : Bk) (some (k, n, e3)) N e5 g4 := hT5.reP (P0_back w5) HT4.out.me.pb HT4.out.me.ps HT4.out.me.pi HT4.out.upP
      have hk5' : Kp (fun b => decide (b ≠ (⟨s + 1, s, k.i⟩ : Bk).b ∧ b ≠ (⟨s + 1, s, k.i⟩ : Bk).s ∧ b ≠ (⟨s + 1, s, k.i⟩ : Bk).i)) w3 w5 := HK4.out.trans (hk5.mono fun b hb => decide_eq_true (of_decide_eq_true hb).2.1)
      have HT5 := Lib.hid hT5Q; have HR5 := Lib.hid hR5; have HK5 := Lib.hid hk5'
      have hown5 : w5.ownsRow w3.heap.size 3 1 (.slice a jl.length c) jl.length (ints (jl.map fun v => ((v : Nat) : Int))) := own_off HOWN.out hk5 (fun e => by have h1 := (own_row_lt HOWN.out e).2; have := HS2.out.2; have h3 : w3.heap.size ≤ s := h1; omega)
      have HOWN5 := Lib.hid hown5
      clear hT5 hR5 hk5 hT5Q hk5' hown5 HFW
      rcases hor with ⟨rfl, ord, hord⟩ | ⟨rfl, Z, hz1, hz2⟩
      · have hac : ∃ r' : Nat → Nat, ∀ v t, st4 v = some t → ∀ w ∈ varsT t, r' (nm4 w) < r' v := by
          refine HSM.out.tri.acyclic HBO4.out rfl (fun c => c ∈ ord) (farO ord) (ord.length + 1) (fun c => by unfold farO; omega) (fun v hv hvn h0 hg => ?_) (fun c t hc hs w hw => hord.falls hc hs hw)
          refine hord.seed v (List.mem_filter.2 ⟨(HJM.out.1 v).2 hv, ?_⟩)
          have hnm := HSM.out.tri.jn v hv hvn
          have he3 : e3 v = none := by rw [HR3.out.at hnm]; exact h0
          unfold finB
          rw [decide_eq_false (by omega), he3, hg]
          rfl
        obtain ⟨r', hr'⟩ := hac
        have hask : ∀ stx : Nat → Option Ty, (∀ v, stx v = st4 v ∨ (v < n ∧ ∃ t, st4 v = some t ∧ stx v = some (inst (om n nm4 st4 r') t))) → _ := fun stx hs => HSM.out.tri.asks HBO4.out HAL.out hr' hs
        have hkb := (HSM.out.tri.keep HBO4.out HAL.out hr').1
        have hkw := keep_walk Q (⟨s + 1, s, k.i⟩ : Bk) k n e3 N e5 g4 nm4 st4 r' jl a c w3.heap.size w5 HT5.out HR5.out (fun b hb => HQ2.out b (Nat.le_trans HK5.out.size hb)) (by have := HBUD.out; have := HBD.out; have := HNB.out; omega) hask
          (fun v t hv ht => (hkb.name v (inst (om n nm4 st4 r') t) (by unfold stK; rw [if_pos hv, ht]; rfl)).2.1) HOWN5.out
          ⟨fun e => by have h1 := (own_row_lt HOWN5.out e).2; have := HS2.out.2; have h3 : w3.heap.size ≤ s := h1; omega, fun e => by have h1 := (own_row_lt HOWN5.out e).2; have := HS2.out; have := HLOW.out; omega⟩ (by have := HBUD.out; have := HBD.out; have := HNB.out; omega) HJM.out.2.2 HJM.out.2.1
        have HKW := Lib.hid hkw; have HRR := Lib.hid hr'
        clear hask hkb hkw hr' hord
        go_wp2_with (fail)
        refine HKW.out.mono ?_
        rintro en w6 ⟨rfl, e6, e7, stx, hT6, hI6, hk6⟩
        obtain ⟨f1, f2, f3, f4⟩ := HSM.out.tri.final (js := jl) (e0 := e3) HBO4.out HAL.out HRR.out HR3.out (fun v t hv => (HSM.out.tri.name v t hv).1) (fun v hv => (HJM.out.1 v).2 hv) (fun v hv => (HJM.out.1 v).1 hv) hI6
        have hk6' : Kp (fun b => decide (b ≠ k.s ∧ b ≠ k.i)) w w6 := by
          have h5 := HKF.out w5 HK5.out
          exact ⟨hk6.os.trans h5.os, hk6.tape.trans h5.tape, hk6.output.trans h5.output, Nat.le_trans h5.size hk6.size, fun b hb hp => (hk6.block b (Nat.lt_of_lt_of_le hb h5.size) (decide_eq_true ⟨by have := HS2.out; show b ≠ s; omega, (of_decide_eq_true hp).1⟩)).trans (h5.block b hb hp)⟩
        have HFIN := Lib.hid (show JoinEnd P k n nm st r ts w (.returned (.bool true)) w6 from ⟨hk6', .inr ⟨rfl, HANY.out, e6, g4, _, _, _, HBF.out _ _ _ _ _ hT6, f1, f2, f3, by rw [← HBD.out]; exact Nat.le_trans f4 HTOT.out⟩⟩)
        clear hT6 hI6 hk6 f1 f2 f3 f4 hk6' HKW
        go_wp2_with (fail)
        exact bodyPost_ret (by simp [results, Tryd.results17, go_sem]) rfl HFIN.out
      · have hno : ∀ θ, ¬ (SolA nm st θ ∧ AllOne ts θ) := HSM.out.tri.cant HBO4.out HAL.out fun θ h1 _ => by
          refine cycle_no (fun v t hv => ⟨(HST4.out v t hv).1, (HSM.out.tri.name v t hv).2.2.2.1⟩) Z hz1 (fun c hc => ?_) θ h1
          obtain ⟨p, hp, hcp⟩ := hz2 c hc
          obtain ⟨t, ht, u, hu, e⟩ := of_names hcp
          exact ⟨p, hp, t, ht, u, hu, e⟩
        have HFIN := Lib.hid (show JoinEnd P k n nm st r ts w (.returned (.bool false)) w5 from ⟨HKF.out w5 HK5.out, .inl ⟨rfl, ⟨e3, g4, HBF.out _ _ _ _ _ HT5.out, HR3.out, HBO4.out⟩, .inr hno⟩⟩)
        clear hno hz1 hz2
        go_wp2_with (fail)
        exact bodyPost_ret (by simp [results, Tryd.results17, go_sem]) rfl HFIN.out
end Types
end Go.Proofs.YtjchplgapaeagaaDoor
