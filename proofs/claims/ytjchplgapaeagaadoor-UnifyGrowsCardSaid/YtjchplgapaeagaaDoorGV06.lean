/-A type's variables are handed on, each in its order, to what the function (*enclave/unify.Book).has$1 does. (Written by wip/tools/uneach.py.) A variable's name: the way to it is halved each time that it is gone. Whether a type may be, of a book's variables alone; another variable. Another variable; how many there are; a trial's own ones. -/
import Derived.Test.YtjchplgapaeagaaDoorGV05
import Derived.LoopTactic
import Derived.Deep.RegionHeld3
import Derived.Deep.Cut
import Derived.Deep.DeepCutAuto
namespace Go.Proofs.YtjchplgapaeagaaDoor
open Go.RowKit
set_option linter.unusedVariables false
set_option linter.unusedSimpArgs false
namespace Types

set_option maxRecDepth 100000 in
set_option maxHeartbeats 6400000 in
theorem eachH {α : Type} (Q : Nat → Bool) (w0 : World) (k1 k2 : Value) (Inv : α → World → Prop) (step : α → Int → α) (ok : α → Int → Prop)
    (hC : ∀ a v W, Inv a W → ok a v → Calls Tryd.prog 48 #[.int .i64 v, k1, k2] W fun en W' => en = .returned (.tuple #[]) ∧ Inv (step a v) W' ∧ Kp Q W W')
    (hI : ∀ a W O, Inv a W → Inv a (W.alloc O)) (hQ : ∀ b, w0.heap.size ≤ b → Q b = true) :
    ∀ (m : Nat) (ts : List Ty) (p : Option Addr) (l d : Nat) (a : α) (w : World), wts ts ≤ m → ts.length = l → l ≤ maxLen → Kids (veil Q w) p ts → w0.heap.size ≤ w.heap.size → Inv a w → EOk step ok a (evK ts) →
    Calls Tryd.prog 47 #[.func (.func 48) #[] #[k1, k2], .slice p l d] w fun en w' => en = .returned (.tuple #[]) ∧ Inv ((evK ts).foldl step a) w' ∧ Kp Q w w' := by
  intro m
  induction m using Nat.strongRecOn with
  | _ m ih =>
    intro ts p l d a w hm hl hlm hk hw hi hok
    unfold maxLen at hlm
    have HM := Lib.hid hm; have HL := Lib.hid hl; have HKI := Lib.hid hk; have HW := Lib.hid hw; have HIN := Lib.hid hi; have HOK := Lib.hid hok; have IH := Lib.hid ih; have HC := Lib.hid hC; have HI := Lib.hid hI; have HQ := Lib.hid hQ
    clear hm hl hk hw hi hok ih hC hI hQ
    go_enter Tryd.func47, Tryd.ntmps47
    go_wp2_with (fail)
    go_loopw [8] (fun i wr => ∃ (j : Nat) (b : α), j ≤ l ∧ i = .int .i64 j ∧ Hid (Inv b wr) ∧ Hid ((evK ts).foldl step a = (evK (ts.drop j)).foldl step b) ∧ Hid (EOk step ok b (evK (ts.drop j))) ∧ Hid (Kp Q w wr)) (fun i _ => l - (intOf i).toNat)
    case atStart => exact ⟨0, a, Nat.zero_le _, rfl, HIN, Lib.hid (by rw [List.drop_zero]), Lib.hid (by rw [List.drop_zero]; exact HOK.out), Lib.hid (Kp.refl _ _)⟩
    case round =>
      obtain ⟨j, b, hj, rfl, HB, HF, HO, HK⟩ := hrel
      by_cases hlt : j < l
      · have hjk : j < ts.length := by rw [HL.out]; exact hlt
        have hkr := HK.out.kids HKI.out
        obtain ⟨bb, o, q, c', rfl, hkid, e0, e1, e2⟩ := hkr.get j hjk
        have c0 := (veil_seen e0).2
        have c1 := (veil_seen e1).2
        have c2 := (veil_seen e2).2
        have hwm : wts (tget ts j).ks < wts ts := by have h1 := wts_get hjk; have h2 := wt_ks (tget ts j); omega
        have hnew : Q wr.heap.size = true := HQ.out _ (by have := HW.out; have := HK.out.size; omega)
        have hev := evK_drop ts j hjk
        have HJK := Lib.hid hjk; have HKID := Lib.hid hkid; have HWM := Lib.hid hwm; have HN := Lib.hid hnew; have HEV := Lib.hid hev
        have HB1 := Lib.hid (HI.out b wr (.cells #[.int .u8 (tget ts j).h.k, .int .i64 (tget ts j).h.v, .slice q (tget ts j).ks.length c'] 25) HB.out)
        have HX := Lib.hid (heap_alloc_new wr (.cells #[.int .u8 (tget ts j).h.k, .int .i64 (tget ts j).h.v, .slice q (tget ts j).ks.length c'] 25))
        clear hjk hkr hkid hwm hnew hev e0 e1 e2 HB
        by_cases h5 : (tget ts j).h.k = 5
        · have h5' : ((tget ts j).h.k == 5) = true := by rw [h5]; rfl
          have hevt := HEV.out
          rw [evT_eq, if_pos h5] at hevt
          have ho := HO.out
          rw [hevt] at ho
          have HF2 := Lib.hid (HF.out.trans (by rw [hevt]; rfl : _ = (evK (tget ts j).ks ++ evK (ts.drop (j + 1))).foldl step (step b (tget ts j).h.v)))
          have HO1 := Lib.hid ho.1; have HO2 := Lib.hid (show EOk step ok (step b (tget ts j).h.v) (evK (tget ts j).ks ++ evK (ts.drop (j + 1))) from ho.2)
          have hcc := HC.out b (tget ts j).h.v _ HB1.out HO1.out
          have HCC := Lib.hid hcc
          clear hevt ho h5 hcc HF HO
          go_wp2_with (fail)
          refine HCC.out.mono ?_
          rintro en w1 ⟨rfl, hi1, hk1⟩
          have hx1 := (hk1.block _ (lt_of_block HX.out) HN.out).trans HX.out
          obtain ⟨⟨g0, g1, g2⟩, -, gl⟩ := c3 hx1
          have HK1 := Lib.hid ((HK.out.alloc _).trans hk1)
          have HI1 := Lib.hid hi1
          have hsp := eok_append HO2.out
          have HS1 := Lib.hid hsp.1; have HS2 := Lib.hid hsp.2
          have hih := IH.out (wts (tget ts j).ks) (by have := HWM.out; have := HM.out; omega) (tget ts j).ks q _ c' _ w1 (Nat.le_refl _) rfl (Nat.le_trans HKID.out.cap.1 HKID.out.cap.2) (((Kp.of_below (al_new _)).trans hk1).kids HKID.out.kids) (by have := HW.out; have := HK1.out.size; omega) HI1.out HS1.out
          have HIH := Lib.hid hih
          clear hx1 hi1 hk1 hsp hih c0 c1 c2 h5'
          go_wp2_with (fail)
          refine HIH.out.mono ?_
          rintro en w2 ⟨rfl, hi2, hk2⟩
          have HK2 := Lib.hid (HK1.out.trans hk2); have HI2 := Lib.hid hi2
          clear hi2 hk2 g0 g1 g2 gl
          go_wp2_with (fail)
          go_roundw
          case rel => exact ⟨j + 1, _, by omega, by go_num, HI2, Lib.hid (by rw [HF2.out, List.foldl_append]), HS2, HK2⟩
          case measure => simp [intOf]; omega
        · have h5' : ((tget ts j).h.k == 5) = false := beq_eq_false_iff_ne.2 h5
          have hevt := HEV.out
          rw [evT_eq, if_neg h5, List.nil_append] at hevt
          have ho := HO.out
          rw [hevt] at ho
          have HF2 := Lib.hid (HF.out.trans (by rw [hevt] : _ = (evK (tget ts j).ks ++ evK (ts.drop (j + 1))).foldl step b))
          have hsp := eok_append ho
          have HS1 := Lib.hid hsp.1; have HS2 := Lib.hid hsp.2
          have hk1 := HK.out.alloc (.cells #[.int .u8 (tget ts j).h.k, .int .i64 (tget ts j).h.v, .slice q (tget ts j).ks.length c'] 25)
          have HK1 := Lib.hid hk1
          have hih := IH.out (wts (tget ts j).ks) (by have := HWM.out; have := HM.out; omega) (tget ts j).ks q _ c' b (wr.alloc (.cells #[.int .u8 (tget ts j).h.k, .int .i64 (tget ts j).h.v, .slice q (tget ts j).ks.length c'] 25)) (Nat.le_refl _) rfl (Nat.le_trans HKID.out.cap.1 HKID.out.cap.2) ((Kp.of_below (al_new _)).kids HKID.out.kids) (by have := HW.out; have := HK1.out.size; omega) HB1.out HS1.out
          have HIH := Lib.hid hih
          clear hevt ho h5 hsp hk1 hih HF HO
          go_wp2_with (fail)
          refine HIH.out.mono ?_
          rintro en w2 ⟨rfl, hi2, hk2⟩
          have HK2 := Lib.hid (HK1.out.trans hk2); have HI2 := Lib.hid hi2
          clear hi2 hk2 c0 c1 c2
          go_wp2_with (fail)
          go_roundw
          case rel => exact ⟨j + 1, _, by omega, by go_num, HI2, Lib.hid (by rw [HF2.out, List.foldl_append]), HS2, HK2⟩
          case measure => simp [intOf]; omega
      · obtain rfl : j = l := by omega
        have hr := HF.out
        rw [List.drop_eq_nil_of_le (by rw [HL.out]; exact Nat.le_refl _), evK_nil] at hr
        have HR := Lib.hid (show Inv ((evK ts).foldl step a) wr by rw [hr]; exact HB.out)
        clear hr
        go_wp2_with (fail)
        exact bodyPost_end (results_none rfl _ _ _) rfl ⟨rfl, HR.out, HK.out⟩
end Types
end Go.Proofs.YtjchplgapaeagaaDoor
namespace Go.Proofs.YtjchplgapaeagaaDoor
open Go.RowKit
set_option linter.unusedVariables false
set_option linter.unusedSimpArgs false
namespace Types

theorem veil_kp {P : Nat → Bool} {s : Nat} (hs : P s = false) {w w' : World} (h : Kp (fun b => decide (b ≠ s)) w w') : Kp P w w' :=
  h.mono fun b hb => decide_eq_true fun e => by subst e; rw [hs] at hb; cases hb
theorem ne_true {a b : Nat} (h : a ≠ b) : (fun b' => decide (b' ≠ b)) a = true := decide_eq_true h
/-- The book, with another thing at one of its variables. -/
theorem TBk.put {P : Nat → Bool} {w w' : World} {k : Bk} {u : Up} {n : Nat} {e : Nat → Option Ty} {g : Nat → Bool} (h : TBk P w k u n e g) (hk : Kp (fun b => decide (b ≠ k.s)) w w') {e' : Nat → Option Ty} (hs : StAt P w' k.s e') (hl : ∀ v t, e' v = some t → v < n) : TBk P w' k u n e' g := by
  refine ⟨{ h.me with box := (hk.block _ (lt_of_block h.me.box) (ne_true h.me.bs)).trans h.me.box, st := hs, inn := h.me.inn.keep (hk.block _ h.me.inn.lt (ne_true (fun e => h.me.si e.symm))), lt := hl }, ?_⟩
  have hu := h.up
  unfold UpOk at hu ⊢
  split
  · trivial
  · rename_i x
    obtain ⟨h1, h2, h3, h4, h5, h6⟩ := hu
    exact ⟨h1.keep hk (fun b hb => decide_eq_true fun e => by subst e; rw [h.me.ps] at hb; cases hb) (ne_true h5) (ne_true h4) (ne_true (by rw [h2]; exact fun e => h.me.si e.symm)), h2, h3, h4, h5, h6⟩
theorem store_off {w w' : World} {s b : Nat} (hg : w.grownBy w' (some s)) (hs : w'.heap.size = w.heap.size) (hb : b ≠ s) : w'.heap[b]? = w.heap[b]? := by
  by_cases h : b < w.heap.size
  · exact hg.block b h fun e => by injection e with e; exact hb e
  · rw [Array.getElem?_eq_none (by omega), Array.getElem?_eq_none (by omega)]
theorem cmb_upd {u : Up} {e : Nat → Option Ty} {v : Nat} {t : Ty} : cmb u (upd e v (some t)) = upd (cmb u e) v (some t) := by
  funext x
  unfold cmb
  by_cases h : x = v
  · subst h; rw [upd_same, upd_same]
  · rw [upd_other _ _ h, upd_other _ _ h]
set_option maxRecDepth 100000 in
set_option maxHeartbeats 12800000 in
theorem name_walk (P : Nat → Bool) (k : Bk) (u : Up) (n : Nat) (e : Nat → Option Ty) (g : Nat → Bool) (nm : Nat → Nat) (st : Nat → Option Ty) (v : Nat) (w : World) (hT : TBk P w k u n e g) (hR : Rep (cmb u e) nm st) (hv : v < n) :
    Calls Tryd.prog 50 #[.pointer (some ⟨k.b, 0, none⟩), .int .i64 (v : Int)] w fun en w' => en = .returned (.int .i64 (nm v : Int)) ∧ ∃ e', TBk P w' k u n e' g ∧ Rep (cmb u e') nm st ∧ Kp (fun b => decide (b ≠ k.s)) w w' := by
  have HT := Lib.hid hT; have HR := Lib.hid hR; have HV := Lib.hid hv
  clear hT hR hv
  go_enter Tryd.func50, Tryd.ntmps50
  go_wp2_with (fail)
  go_loopw [1] (fun c wr => ∃ (j : Nat) (e' : Nat → Option Ty), c = .int .i64 (j : Int) ∧ Hid (j < n) ∧ Hid (nm j = nm v) ∧ Hid (TBk P wr k u n e' g) ∧ Hid (Rep (cmb u e') nm st) ∧ Hid (Kp (fun b => decide (b ≠ k.s)) w wr)) (fun c _ => (intOf c).toNat)
  case atStart => exact ⟨v, e, rfl, HV, Lib.hid rfl, HT, HR, Lib.hid (Kp.refl _ _)⟩
  case round =>
    obtain ⟨j, e', rfl, HJ, HN, HT1, HR1, HK⟩ := hrel
    clear HT HR
    have hsw := stand_walk P wr k u n e' g j HT1.out (keyOk_of (by have := HJ.out; have := HT1.out.me.few; omega))
    have HSW := Lib.hid hsw
    clear hsw
    go_wp2_with (fail)
    refine HSW.out.mono ?_
    rintro en w1 ⟨h, p, l, c, rfl, hTy, hb1⟩
    have HTB := Lib.hid (HT1.out.below hb1)
    have HK1 := Lib.hid (HK.out.trans (Kp.of_below hb1))
    have hcase := HR1.out.cases j
    clear HSW HT1 HK
    rcases hcase with ⟨hf, hn, _⟩ | ⟨x, hf, hx, hn, _⟩ | ⟨t, hf, hk, _, hn, _⟩
    · rw [hf] at hTy
      obtain rfl : h = ⟨0, 0⟩ := hTy.head.symm
      have HN2 := Lib.hid (hn.symm.trans HN.out)
      have HTB2 := Lib.hid (HTB.out.below (al_new (.cells #[.int .u8 0, .int .i64 0, .slice p l c] 25))); have HK2 := Lib.hid (HK1.out.alloc (.cells #[.int .u8 0, .int .i64 0, .slice p l c] 25))
      clear hf hn hTy hb1
      go_wp2_with (fail)
      go_ret
      exact ⟨congrArg (fun q : Nat => Ending.returned (.int .i64 (q : Int))) HN2.out, e', HTB2.out, HR1.out, HK2.out⟩
    · rw [hf] at hTy
      obtain rfl : h = ⟨5, (x : Int)⟩ := hTy.head.symm
      have hsw := stand_walk P (w1.alloc (.cells #[.int .u8 5, .int .i64 (x : Int), .slice p l c] 25)) k u n e' g x (HTB.out.below (al_new _)) (keyOk_of (by have := HJ.out; have := HTB.out.me.few; omega))
      have HSW := Lib.hid hsw; have HF := Lib.hid hf; have HX := Lib.hid hx; have HN2 := Lib.hid (hn.symm.trans HN.out)
      have HTB2 := Lib.hid (HTB.out.below (al_new (.cells #[.int .u8 5, .int .i64 (x : Int), .slice p l c] 25))); have HK2 := Lib.hid (HK1.out.alloc (.cells #[.int .u8 5, .int .i64 (x : Int), .slice p l c] 25)); have HB5 := Lib.hid (heap_alloc_new w1 (.cells #[.int .u8 5, .int .i64 (x : Int), .slice p l c] 25))
      clear hsw hf hx hn hTy hb1
      go_wp2_with (fail)
      refine HSW.out.mono ?_
      rintro en w2 ⟨h2, p2, l2, c2, rfl, hTy2, hb2⟩
      have HTB3 := Lib.hid ((HTB2.out.below hb2).below (al_new (.cells #[.int .u8 h2.k, .int .i64 h2.v, .slice p2 l2 c2] 25))); have HK3 := Lib.hid ((HK2.out.trans (Kp.of_below hb2)).alloc (.cells #[.int .u8 h2.k, .int .i64 h2.v, .slice p2 l2 c2] 25))
      have HBX := Lib.hid ((al_new (.cells #[.int .u8 h2.k, .int .i64 h2.v, .slice p2 l2 c2] 25)).block _ (by have := lt_of_block ((hb2.block _ (lt_of_block HB5.out)).trans HB5.out); exact this) |>.trans ((hb2.block _ (lt_of_block HB5.out)).trans HB5.out))
      obtain ⟨⟨g0, g1, g2⟩, f0, gl⟩ := c3 ((hb2.block _ (lt_of_block HB5.out)).trans HB5.out)
      have hTy3 := ((Kp.of_below hb2).trans (Kp.of_below (al_new (.cells #[.int .u8 h2.k, .int .i64 h2.v, .slice p2 l2 c2] 25)))).ty hTy2
      have HKS := Lib.hid (show k.s < w1.heap.size from HTB.out.me.st.lt); have HK2S := Lib.hid (HTB2.out.below hb2).me.st.lt; have HW12 := Lib.hid (show w1.heap.size < w2.heap.size from lt_of_block ((hb2.block _ (lt_of_block HB5.out)).trans HB5.out))
      have hxn : x < n := Nat.lt_trans HX.out HJ.out
      have HXN := Lib.hid hxn
      have hcase := HR1.out.cases x
      clear HSW HTB2 HK2 HTB HK1 hb2 hxn
      have hskip : ((tyO (cmb u e' x)).h.k ≠ 5) → (h2.k == 5) = false := fun hne => by rw [← hTy2.head]; exact beq_eq_false_iff_ne.2 hne
      have hcs : ((tyO (cmb u e' x)).h.k ≠ 5) ∨ ∃ y, cmb u e' x = some (tyV y) ∧ y < x ∧ nm x = nm y := by
        rcases hcase with ⟨a, _⟩ | ⟨y, a, b, c, _⟩ | ⟨t, a, b, _⟩
        · rw [a]; exact .inl (by decide)
        · exact .inr ⟨y, a, b, c⟩
        · rw [a]; exact .inl b
      clear hcase
      rcases hcs with hne | ⟨y, hfy, hyx, hny⟩
      · have hsk := hskip hne
        clear hskip hne hTy2 hTy3
        go_wp2_with (fail)
        go_roundw
        case rel => exact ⟨x, e', by go_num, HXN, HN2, HTB3, HR1, HK3⟩
        case measure => simp [intOf]; have := HX.out; omega
      · clear hskip
        rw [hfy] at hTy2 hTy3
        obtain rfl : h2 = ⟨5, (y : Int)⟩ := hTy2.head.symm
        have HFY := Lib.hid hfy; have HYX := Lib.hid hyx; have HTY := Lib.hid hTy3
        clear hfy hyx hny hTy2 hTy3
        go_upto_region 6 with (fail)
        have HB6 := Lib.hid (heap_alloc_new w2 (.cells #[.int .u8 5, .int .i64 (y : Int), .slice p2 l2 c2] 25))
        have h6s : w2.heap.size ≠ k.s := fun e => by have := HK2S.out; omega
        generalize hw3 : w2.alloc (.cells #[.int .u8 5, .int .i64 (y : Int), .slice p2 l2 c2] 25) = w3 at *
        clear hw3
        refine wp_region_held_drew (S := fun V => ∀ b, b ≠ k.s → V.heap[b]? = w3.heap[b]?) (by kernel_rfl) (fun _ _ => rfl) (fun hHeld => ?_)
        refine wpAnyH_take (i := 0) (v := .pointer (some ⟨k.b, 0, none⟩)) rfl (by kernel_rfl) (by kernel_rfl) (by kernel_rfl) (fun _ _ _ h => h) (Or.inl ⟨by rfl, ?_⟩) (by assumption) ?_
        · intro w' hSw
          first | (go_simp; done) | rfl
        try simp only [Act.put, List.getElem_toArray, List.getElem_cons_succ, List.getElem_cons_zero, List.setIfInBounds_toArray, List.set_cons_zero, List.set_cons_succ]
        refine wpAnyH_take (i := 1) (v := .pointer (some ⟨k.b, 0, none⟩)) rfl (by kernel_rfl) (by kernel_rfl) (by kernel_rfl) (fun _ _ _ h => h) (Or.inl ⟨by rfl, ?_⟩) (by assumption) ?_
        · intro w' hSw
          first | (go_simp; done) | rfl
        try simp only [Act.put, List.getElem_toArray, List.getElem_cons_succ, List.getElem_cons_zero, List.setIfInBounds_toArray, List.set_cons_zero, List.set_cons_succ]
        refine wpAnyH_take (i := 2) (v := .pointer (some ⟨k.b, 2, none⟩)) rfl (by kernel_rfl) (by kernel_rfl) (by kernel_rfl) (fun _ _ _ h => h) (Or.inl ⟨by rfl, ?_⟩) (by assumption) ?_
        · intro w' hSw
          first | (go_simp; done) | rfl
        try simp only [Act.put, List.getElem_toArray, List.getElem_cons_succ, List.getElem_cons_zero, List.setIfInBounds_toArray, List.set_cons_zero, List.set_cons_succ]
        refine wpAnyH_take (i := 3) (v := .map (some k.s)) rfl (by kernel_rfl) (by kernel_rfl) (by kernel_rfl) (fun _ _ _ h => h) (Or.inl ⟨by rfl, ?_⟩) (by assumption) ?_
        · intro w' hSw
          obtain ⟨d0, d1, d2, d3, dl⟩ := bkc ((hSw k.b HTB3.out.me.bs).trans HTB3.out.me.box)
          first | (go_simp; done) | rfl
        try simp only [Act.put, List.getElem_toArray, List.getElem_cons_succ, List.getElem_cons_zero, List.setIfInBounds_toArray, List.set_cons_zero, List.set_cons_succ]
        refine wpAnyH_take (i := 4) (v := .int .i64 (j : Int)) rfl (by kernel_rfl) (by kernel_rfl) (by kernel_rfl) (fun _ _ _ h => h) (Or.inl ⟨by rfl, ?_⟩) (by assumption) ?_
        · intro w' hSw
          first | (go_simp; done) | rfl
        try simp only [Act.put, List.getElem_toArray, List.getElem_cons_succ, List.getElem_cons_zero, List.setIfInBounds_toArray, List.set_cons_zero, List.set_cons_succ]
        refine wpAnyH_take (i := 5) (v := .agg #[.int .u8 5, .int .i64 (y : Int), .slice p2 l2 c2]) rfl (by kernel_rfl) (by kernel_rfl) (by kernel_rfl) (fun _ _ _ h => h) (Or.inl ⟨by rfl, ?_⟩) (by assumption) ?_
        · intro w' hSw
          obtain ⟨⟨d0, d1, d2⟩, -, dl⟩ := c3 ((hSw _ h6s).trans HB6.out)
          first | (go_simp; done) | rfl
        try simp only [Act.put, List.getElem_toArray, List.getElem_cons_succ, List.getElem_cons_zero, List.setIfInBounds_toArray, List.set_cons_zero, List.set_cons_succ]
        refine wpAnyH_ready (rs := [6]) (by kernel_rfl) (by simp) ?_
        refine AllReadyH.cons rfl (fun K hK => ?_) AllReadyH.nil
        have HK2 := Lib.hid hK
        clear hK
        try rw [if_pos (by rfl)]
        obtain ⟨F, hM, hF⟩ := HTB3.out.me.st
        have hFn : ∀ i, KeyOk i → F i ≠ none → i < n := fun i _ hi => by
          rcases hF i with ⟨_, b⟩ | ⟨t, _, _, _, _, a, _⟩
          · exact absurd b hi
          · exact HTB3.out.me.lt i t a
        have hfw := HTB3.out.me.few
        refine wp_store 56 25 Tryd.underlying56 k.s n j F (.agg #[.int .u8 5, .int .i64 (y : Int), .slice p2 l2 c2]) rfl rfl rfl (hM.of_block rfl : MapAt w3.drew k.s F) hFn (by unfold maxLen; omega) (keyOk_of (by have := HJ.out; omega)) (fun w4 hm hg hs => ?_)
        replace hg : w3.grownBy w4 (some k.s) := ⟨hg.os, hg.tape, hg.output, hg.size, hg.block⟩
        replace hs : w4.heap.size = w3.heap.size := hs
        have hoff : ∀ b, b ≠ k.s → w4.heap[b]? = w3.heap[b]? := fun b hb => store_off hg hs hb
        have hkp : Kp (fun b => decide (b ≠ k.s)) w3 w4 := ⟨hg.os, hg.tape, hg.output, Nat.le_of_eq hs.symm, fun b hb hp => hoff b (of_decide_eq_true hp)⟩
        have hput := HTB3.out.put hkp (StAt.put hF HTY.out hm (veil_kp HTB3.out.me.ps hkp).reads) (fun v t hvt => by
          by_cases e : v = j
          · rw [e]; exact HJ.out
          · rw [upd_other _ _ e] at hvt; exact HTB3.out.me.lt v t hvt)
        have hrep : Rep (cmb u (upd e' j (some (tyV y)))) nm st := by rw [cmb_upd]; exact HR1.out.halve HF.out HFY.out
        have HPUT := Lib.hid hput; have HREP := Lib.hid hrep; have HK4 := Lib.hid (HK3.out.trans hkp); have HBX4 := Lib.hid ((hoff w1.heap.size (fun e => by have := HKS.out; omega)).trans HBX.out); have HOFF := Lib.hid hoff
        clear hM hF hFn hm hg hs hoff hkp hput hrep HTB3 HK3 HR1
        refine HK2.out _ _ HOFF.out (fun hHeld => ?_)
        clear HK2
        try simp only [Act.put, List.getElem_toArray, List.getElem_cons_succ, List.getElem_cons_zero, List.setIfInBounds_toArray, List.set_cons_zero, List.set_cons_succ]
        clear K
        refine wpAnyH_done (by kernel_rfl) ?_ _
        clear hHeld
        obtain ⟨⟨g0, g1, g2⟩, f0, gl⟩ := c3 HBX4.out
        go_wp2_with (fail)
        go_roundw
        case rel => exact ⟨x, _, by go_num, HXN, HN2, HPUT, HREP, HK4⟩
        case measure => simp [intOf]; have := HX.out; omega
    · rw [hf] at hTy
      have hhk : h.k ≠ 5 := by rw [← hTy.head]; exact hk
      have hsk : (h.k != 5) = true := by simpa using hhk
      have HN2 := Lib.hid (hn.symm.trans HN.out)
      have HTB2 := Lib.hid (HTB.out.below (al_new (.cells #[.int .u8 h.k, .int .i64 h.v, .slice p l c] 25))); have HK2 := Lib.hid (HK1.out.alloc (.cells #[.int .u8 h.k, .int .i64 h.v, .slice p l c] 25))
      clear hf hn hTy hb1 hhk hk
      go_wp2_with (fail)
      go_ret
      exact ⟨congrArg (fun q : Nat => Ending.returned (.int .i64 (q : Int))) HN2.out, e', HTB2.out, HR1.out, HK2.out⟩
end Types
end Go.Proofs.YtjchplgapaeagaaDoor
namespace Go.Proofs.YtjchplgapaeagaaDoor
open Go.RowKit
set_option linter.unusedVariables false
set_option linter.unusedSimpArgs false
namespace Types

theorem c1 {W : World} {N : Nat} {a : Value} {ty : TypeId} (h : W.heap[N]? = some (.cells #[a] ty (0, 0))) : W.cell? ⟨N, 0, none⟩ = some a ∧ W.frozen? ⟨N, 0, none⟩ = false ∧ N < W.heap.size := by
  refine ⟨?_, ?_, lt_of_block h⟩ <;> simp [World.cell?, World.frozen?, h]
theorem set1 {W : World} {N : Nat} {a : Value} {ty : TypeId} (h : W.heap[N]? = some (.cells #[a] ty (0, 0))) (v : Value) : (W.setCell ⟨N, 0, none⟩ v).heap[N]? = some (.cells #[v] ty (0, 0)) := by
  simp [World.setCell, Array.getElem?_modify, h]
/-- May it be, of so many variables? -/
def hasB (n : Nat) (t : Ty) : Bool := mayT t && (evT t).all fun v => decide (v < (n : Int))
/-- What has$1 relies on. -/
structure HasI (k : Bk) (up : Option Addr) (n N N' : Nat) (a : Bool) (W : World) : Prop where
  a : W.heap[N]? = some (.cells #[.bool a] 4 (0, 0))
  b : W.heap[N']? = some (.cells #[.pointer (some ⟨k.b, 0, none⟩)] 28 (0, 0))
  bk : W.heap[k.b]? = some (.cells (bkCells k up n) 59 (0, 0))
  ne : N' ≠ N
  nk : k.b ≠ N
set_option maxRecDepth 100000 in
set_option maxHeartbeats 3200000 in
theorem has1_walk (k : Bk) (up : Option Addr) (n N N' : Nat) (a : Bool) (v : Int) (W : World) (hI : HasI k up n N N' a W) :
    Calls Tryd.prog 48 #[.int .i64 v, .pointer (some ⟨N, 0, none⟩), .pointer (some ⟨N', 0, none⟩)] W fun en W' => en = .returned (.tuple #[]) ∧ HasI k up n N N' (a && decide (v < (n : Int))) W' ∧ Kp (fun b => decide (b ≠ N)) W W' := by
  obtain ⟨a0, af, al⟩ := c1 hI.a
  obtain ⟨b0, -, bl⟩ := c1 hI.b
  obtain ⟨d0, d1, d2, d3, dl⟩ := bkc hI.bk
  have hend : ∀ x : Bool, HasI k up n N N' x (W.setCell ⟨N, 0, none⟩ (.bool x)) ∧ Kp (fun b => decide (b ≠ N)) W (W.setCell ⟨N, 0, none⟩ (.bool x)) := fun x =>
    ⟨⟨set1 hI.a _, (Below.heap_setCell _ _ _ _ hI.ne).trans hI.b, (Below.heap_setCell _ _ _ _ hI.nk).trans hI.bk, hI.ne, hI.nk⟩, (Kp.refl _ _).set (by simp) 0 _⟩
  have HE := Lib.hid hend
  clear hend hI
  cases a with
  | false =>
    go_enter Tryd.func48, Tryd.ntmps48
    go_wp2
    exact bodyPost_end (results_none rfl _ _ _) rfl ⟨rfl, HE.out false⟩
  | true =>
    go_enter Tryd.func48, Tryd.ntmps48
    go_wp2
    have h := HE.out (decide (v < (n : Int)))
    exact bodyPost_end (results_none rfl _ _ _) rfl ⟨rfl, by rw [Bool.true_and]; exact h⟩
theorem HasI.alloc {k : Bk} {up : Option Addr} {n N N' : Nat} {a : Bool} {W : World} (h : HasI k up n N N' a W) (O : Obj) : HasI k up n N N' a (W.alloc O) := by
  have hb := al_new (W := W) O
  exact ⟨(hb.block _ (lt_of_block h.a)).trans h.a, (hb.block _ (lt_of_block h.b)).trans h.b, (hb.block _ (lt_of_block h.bk)).trans h.bk, h.ne, h.nk⟩
theorem veil_alloc {Q : Nat → Bool} {V : World} (O : Obj) (h : Q V.heap.size = true) : Reads ((veil Q V).alloc O) (veil Q (V.alloc O)) := fun a v hv => by
  have hlt := World.block_lt_of_cell? _ _ hv
  rw [World.size_alloc, veil_size] at hlt
  by_cases e : a.block = V.heap.size
  · have e1 := heap_alloc_new (veil Q V) O
    rw [veil_size] at e1
    have e2 : (veil Q (V.alloc O)).heap[a.block]? = ((veil Q V).alloc O).heap[a.block]? := by
      rw [veil_at (by rw [e]; exact h), e]
      show ((V.heap.push O))[V.heap.size]? = ((veil Q V).heap.push O)[V.heap.size]?
      rw [Array.getElem?_push, Array.getElem?_push, veil_size]
      simp
    rw [World.cell?_of_block e2]; exact hv
  · have h2 : (veil Q V).cell? a = some v := by
      rw [← hv]; exact (World.cell?_of_block (Below.heap_alloc _ _ a.block (by rw [veil_size]; omega))).symm
    obtain ⟨hp, h3⟩ := veil_seen h2
    rw [World.cell?_of_block (veil_at hp), World.cell?_of_block (Below.heap_alloc _ _ a.block (by omega))]
    exact h3
/-- A row of one type, just laid, as it is seen. -/
theorem kids_one_veil {Q : Nat → Bool} {V : World} {h : Hd} {p : Option Addr} {l c : Nat} {t : Ty} (hT : TyIs (veil Q V) h p l c t) (ty : TypeId) (N : Nat) (hN : N = V.heap.size) (hQ : Q N = true) :
    Kids (veil Q (V.alloc (.cells #[.int .u8 h.k, .int .i64 h.v, .slice p l c] ty))) (some ⟨N, 0, none⟩) [t] := by
  subst hN
  exact (kids_one hT ty V.heap.size (veil_size _ _).symm).reads' (veil_alloc _ hQ)
theorem fold_and (n : Nat) : ∀ (l : List Int) (a : Bool), l.foldl (fun a v => a && decide (v < (n : Int))) a = (a && l.all fun v => decide (v < (n : Int)))
  | [], a => by simp
  | x :: l, a => by rw [List.foldl_cons, fold_and n l, List.all_cons, Bool.and_assoc]
set_option maxRecDepth 100000 in
set_option maxHeartbeats 6400000 in
theorem has_walk (k : Bk) (up : Option Addr) (n : Nat) (t : Ty) (h : Hd) (p : Option Addr) (l c : Nat) (w : World) (hB : w.heap[k.b]? = some (.cells (bkCells k up n) 59 (0, 0))) (hT : TyIs w h p l c t) (hk : KidsLaid w) :
    Calls Tryd.prog 32 #[.pointer (some ⟨k.b, 0, none⟩), .agg #[.int .u8 h.k, .int .i64 h.v, .slice p l c]] w fun en w' => en = .returned (.bool (hasB n t)) ∧ Below w.heap.size w w' := by
  obtain ⟨K, V⟩ := h
  have hb2 : Below w.heap.size w ((w.alloc (.cells #[.pointer (some ⟨k.b, 0, none⟩)] 28)).alloc (.cells #[.int .u8 K, .int .i64 V, .slice p l c] 25)) := (al_new _).alloc (by simp) _
  have hm := may_walk t ⟨K, V⟩ p l c _ (hT.below hb2) (hk.below hb2)
  have HM := Lib.hid hm; have HB2 := Lib.hid hb2; have HT := Lib.hid hT; have HB := Lib.hid hB
  clear hm hT hB hk hb2
  go_enter Tryd.func32, Tryd.ntmps32
  go_wp2_with (fail)
  refine HM.out.mono ?_
  rintro en w1 ⟨rfl, hb1⟩
  have hs1 : w.heap.size + 2 ≤ w1.heap.size := by have := hb1.size; simpa using this
  have x0 : w1.heap[w.heap.size]? = some (.cells #[.pointer (some ⟨k.b, 0, none⟩)] 28 (0, 0)) := (hb1.block _ (by simp; omega)).trans (((al_new (W := w.alloc _) _).block _ (by simp)).trans (heap_alloc_new w _))
  have x1 : w1.heap[w.heap.size + 1]? = some (.cells #[.int .u8 K, .int .i64 V, .slice p l c] 25 (0, 0)) := (hb1.block _ (by simp)).trans (by have := heap_alloc_new (w.alloc (.cells #[.pointer (some ⟨k.b, 0, none⟩)] 28)) (.cells #[.int .u8 K, .int .i64 V, .slice p l c] 25); simpa using this)
  have hw1 := HB2.out.trans (hb1.mono HB2.out.size)
  obtain ⟨⟨g0, g1, g2⟩, -, gl⟩ := c3 x1
  have hT1 := HT.out.below hw1
  have HT1 := Lib.hid hT1; have HW1 := Lib.hid hw1; have HX0 := Lib.hid x0; have HS1 := Lib.hid hs1
  clear hb1 hT1 hw1 x0 x1
  go_wp2_with (fail)
  have hV : Reads w1 (veil (fun b => decide (b ≠ w1.heap.size)) (w1.alloc (.cells #[.bool (mayT t)] 4))) := veil_from fun b hb => ⟨decide_eq_true (by omega), Below.heap_alloc _ _ b hb⟩
  have hkd := kids_one_veil (Q := fun b => decide (b ≠ w1.heap.size)) (V := w1.alloc (.cells #[.bool (mayT t)] 4)) (HT1.out.reads' hV) 25 (w1.heap.size + 1) (by simp) (decide_eq_true (by omega))
  have hb2 := al_new (W := w1) (.cells #[.bool (mayT t)] 4)
  have hb3 := al_new (W := w1.alloc (.cells #[.bool (mayT t)] 4)) (.cells #[.int .u8 K, .int .i64 V, .slice p l c] 25)
  have hbk := (HW1.out.block _ (lt_of_block HB.out)).trans HB.out
  have hI : HasI k up n w1.heap.size w.heap.size (mayT t) (w1.alloc (.cells #[.bool (mayT t)] 4)) :=
    ⟨heap_alloc_new w1 _, (hb2.block _ (by have := HS1.out; omega)).trans HX0.out, (hb2.block _ (lt_of_block hbk)).trans hbk, by have := HS1.out; omega, by have := lt_of_block hbk; have := lt_of_block HB.out; have := HS1.out; omega⟩
  have he := eachH (fun b => decide (b ≠ w1.heap.size)) (w1.alloc (.cells #[.bool (mayT t)] 4)) (.pointer (some ⟨w1.heap.size, 0, none⟩)) (.pointer (some ⟨w.heap.size, 0, none⟩)) (HasI k up n w1.heap.size w.heap.size) (fun a v => a && decide (v < (n : Int))) (fun _ _ => True)
    (fun a v W hI _ => has1_walk k up n w1.heap.size w.heap.size a v W hI) (fun a W O h => h.alloc O) (fun b hb => decide_eq_true (by simp at hb; omega)) (wts [t]) [t] (some ⟨w1.heap.size + 1, 0, none⟩) 1 1 (mayT t) _ (Nat.le_refl _) rfl (by unfold maxLen; omega) hkd (by simp) (hI.alloc _) (eok_all (fun _ _ => trivial) _ _)
  have HE := Lib.hid he; have HB3 := Lib.hid (hb2.trans (hb3.mono hb2.size))
  clear hV hkd hb2 hb3 hbk hI he
  refine HE.out.mono ?_
  rintro en w2 ⟨rfl, hi2, hk2⟩
  have hx := hi2.a
  rw [fold_and, evK_cons, evK_nil, List.append_nil] at hx
  obtain ⟨x0, -, xl⟩ := c1 hx
  have hb2 : Below w1.heap.size w1 w2 := HB3.out.trans ⟨hk2.os, hk2.tape, hk2.output, hk2.size, fun b hb => hk2.block b (by simp; omega) (decide_eq_true (by omega))⟩
  have HF := Lib.hid (HW1.out.trans (hb2.mono HW1.out.size))
  clear hi2 hk2 hx hb2 HE HB3
  go_wp2_with (fail)
  go_ret
  exact ⟨rfl, HF.out⟩
end Types
end Go.Proofs.YtjchplgapaeagaaDoor
namespace Go.Proofs.YtjchplgapaeagaaDoor
open Go.RowKit
set_option linter.unusedVariables false
set_option linter.unusedSimpArgs false
namespace Types

theorem Kp.set_new {P : Nat → Bool} {w w' : World} (h : Kp P w w') {N : Nat} (hN : w.heap.size ≤ N) (j : Nat) (v : Value) : Kp P w (w'.setCell ⟨N, j, none⟩ v) :=
  ⟨h.os, h.tape, h.output, by have := h.size; simpa [World.setCell] using this, fun b hb hp => (Below.heap_setCell _ _ _ _ (show b ≠ N by omega)).trans (h.block b hb hp)⟩
theorem set3b {W : World} {N : Nat} {a b c x y z : Value} {ty : TypeId} (h : W.heap[N]? = some (.cells #[a, b, c] ty (0, 0))) : (((W.setCell ⟨N, 0, none⟩ x).setCell ⟨N, 1, none⟩ y).setCell ⟨N, 2, none⟩ z).heap[N]? = some (.cells #[x, y, z] ty (0, 0)) := by
  simp [World.setCell, Array.getElem?_modify, h]
theorem set3o (W : World) (N : Nat) (x y z : Value) {i : Nat} (h : i ≠ N) : (((W.setCell ⟨N, 0, none⟩ x).setCell ⟨N, 1, none⟩ y).setCell ⟨N, 2, none⟩ z).heap[i]? = W.heap[i]? := by
  rw [Below.heap_setCell _ _ _ _ h, Below.heap_setCell _ _ _ _ h, Below.heap_setCell _ _ _ _ h]
theorem bk_set {W : World} {k : Bk} {up : Option Addr} {n : Nat} (h : W.heap[k.b]? = some (.cells (bkCells k up n) 59 (0, 0))) (m : Nat) : (W.setCell ⟨k.b, 1, none⟩ (.int .i64 (m : Int))).heap[k.b]? = some (.cells (bkCells k up m) 59 (0, 0)) := by
  unfold bkCells at h ⊢
  simp [World.setCell, Array.getElem?_modify, h]
/-- The book, with another number of variables. -/
theorem TBk.more {P : Nat → Bool} {w w' : World} {k : Bk} {u : Up} {n : Nat} {e : Nat → Option Ty} {g : Nat → Bool} (h : TBk P w k u n e g) (hk : Kp (fun b => decide (b ≠ k.b)) w w') {m : Nat} (hm : n ≤ m) (hf : m ≤ 1000000000)
    (hb : w'.heap[k.b]? = some (.cells (bkCells k (upAddr u) m) 59 (0, 0))) : TBk P w' k u m e g := by
  have hP : Kp P w w' := hk.mono fun b hb => decide_eq_true fun e => by subst e; rw [h.me.pb] at hb; cases hb
  refine ⟨{ h.me with box := hb, st := h.me.st.keep (hk.block _ h.me.st.lt (ne_true fun e => h.me.bs e.symm)) hP.reads, inn := h.me.inn.keep (hk.block _ h.me.inn.lt (ne_true fun e => h.me.bi e.symm)), lt := fun v t ht => Nat.lt_of_lt_of_le (h.me.lt v t ht) hm, glt := fun v hv => Nat.lt_of_lt_of_le (h.me.glt v hv) hm, few := hf }, ?_⟩
  have hu := h.up
  unfold UpOk at hu ⊢
  split
  · trivial
  · rename_i x
    obtain ⟨h1, h2, h3, h4, h5, h6, h7⟩ := hu
    exact ⟨h1.keep hk (fun b hb => decide_eq_true fun e => by subst e; rw [h.me.pb] at hb; cases hb) (ne_true h3) (ne_true h6) (ne_true (by rw [h2]; exact fun e => h.me.bi e.symm)), h2, h3, h4, h5, h6, Nat.le_trans h7 hm⟩
set_option maxRecDepth 100000 in
set_option maxHeartbeats 6400000 in
theorem fresh_walk (P : Nat → Bool) (k : Bk) (u : Up) (n : Nat) (e : Nat → Option Ty) (g : Nat → Bool) (w : World) (hT : TBk P w k u n e g) (hn : n < 1000000000) :
    Calls Tryd.prog 14 #[.pointer (some ⟨k.b, 0, none⟩)] w fun en w' => en = .returned (.agg #[.int .u8 5, .int .i64 (n : Int), .slice none 0 0]) ∧ TBk P w' k u (n + 1) e g ∧ Kp (fun b => decide (b ≠ k.b)) w w' := by
  obtain ⟨d0, d1, d2, d3, dl⟩ := bkc hT.me.box
  have df := hT.me.cells.2.2.2.2
  have hni : (n : Int) < 1000000000 := by omega
  have hs1 := bk_set hT.me.box (n + 1)
  rw [show ((n + 1 : Nat) : Int) = (n : Int) + 1 by omega] at hs1
  have HT := Lib.hid hT; have HS1 := Lib.hid hs1
  clear hT hs1
  go_enter Tryd.func14, Tryd.ntmps14
  go_wp2_with (fail)
  refine (variable_walk _ _).mono ?_
  rintro en w1 ⟨rfl, hb1⟩
  have hk0 : Kp (fun b => decide (b ≠ k.b)) w ((w.setCell ⟨k.b, 1, none⟩ (.int .i64 ((n : Int) + 1))).alloc (.cells #[.int .u8 0, .int .i64 0, .slice none 0 0] 25)) := ((Kp.refl _ _).set (by simp) 1 _).alloc _
  have hsz : (w.setCell ⟨k.b, 1, none⟩ (.int .i64 ((n : Int) + 1))).heap.size = w.heap.size := by simp [World.setCell]
  have hx : w1.heap[w.heap.size]? = some (.cells #[.int .u8 0, .int .i64 0, .slice none 0 0] 25 (0, 0)) := (hb1.block _ (by simp [hsz])).trans (by have := heap_alloc_new (w.setCell ⟨k.b, 1, none⟩ (.int .i64 ((n : Int) + 1))) (.cells #[.int .u8 0, .int .i64 0, .slice none 0 0] 25); rwa [hsz] at this)
  have hbk : w1.heap[k.b]? = some (.cells (bkCells k (upAddr u) (n + 1)) 59 (0, 0)) := (hb1.block _ (by simp [hsz]; omega)).trans ((Below.heap_alloc _ _ _ (by rw [hsz]; exact dl)).trans HS1.out)
  obtain ⟨⟨g0, g1, g2⟩, ⟨f0, f1, f2⟩, gl⟩ := c3 hx
  have hk1 := hk0.trans (Kp.of_below hb1)
  have HK1 := Lib.hid hk1; have HBK := Lib.hid hbk; have HX := Lib.hid hx
  clear hk0 hsz hx hbk hk1 hb1 d0 d1 d2 d3 df
  go_wp2_with (fail)
  have hk3 := (((HK1.out.set_new (N := w.heap.size) (Nat.le_refl _) 0 (.int .u8 5)).set_new (N := w.heap.size) (Nat.le_refl _) 1 (.int .i64 (n : Int))).set_new (N := w.heap.size) (Nat.le_refl _) 2 (.slice none 0 0))
  have hb3 := (set3o w1 w.heap.size (.int .u8 5) (.int .i64 (n : Int)) (.slice none 0 0) (show k.b ≠ w.heap.size by omega)).trans HBK.out
  obtain ⟨⟨x0, x1, x2⟩, -, xl⟩ := c3 (set3b (x := .int .u8 5) (y := .int .i64 (n : Int)) (z := .slice none 0 0) HX.out)
  refine bodyPost_ret (v := .agg #[.int .u8 5, .int .i64 (n : Int), .slice none 0 0]) (by simp [results, Tryd.results14, go_sem, x0, x1, x2, xl]) rfl ⟨rfl, HT.out.more hk3 (Nat.le_succ _) (by omega) hb3, hk3⟩
set_option maxRecDepth 100000 in
set_option maxHeartbeats 3200000 in
theorem vars_walk (P : Nat → Bool) (k : Bk) (u : Up) (n : Nat) (e : Nat → Option Ty) (g : Nat → Bool) (w : World) (hT : TBk P w k u n e g) :
    Calls Tryd.prog 20 #[.pointer (some ⟨k.b, 0, none⟩)] w fun en w' => en = .returned (.int .i64 (n : Int)) ∧ w' = w := by
  obtain ⟨d0, d1, d2, d3, dl⟩ := bkc hT.me.box
  clear hT
  go_enter Tryd.func20, Tryd.ntmps20
  go_wp2
  go_ret
  exact ⟨rfl, rfl⟩
set_option maxRecDepth 100000 in
set_option maxHeartbeats 3200000 in
theorem varsNil_walk (w : World) : Calls Tryd.prog 20 #[.pointer none] w fun en w' => en = .returned (.int .i64 0) ∧ w' = w := by
  go_enter Tryd.func20, Tryd.ntmps20
  go_wp2
  go_ret
  exact ⟨rfl, rfl⟩
set_option maxRecDepth 100000 in
set_option maxHeartbeats 3200000 in
theorem freshNil_walk (w : World) : Calls Tryd.prog 14 #[.pointer none] w fun en w' => en = .returned (.agg #[.int .u8 0, .int .i64 0, .slice none 0 0]) ∧ Below w.heap.size w w' := by
  go_enter Tryd.func14, Tryd.ntmps14
  go_wp2
  obtain ⟨⟨x0, x1, x2⟩, -, xl⟩ := c3 (heap_alloc_new w (.cells #[.int .u8 0, .int .i64 0, .slice none 0 0] 25))
  refine bodyPost_ret (v := .agg #[.int .u8 0, .int .i64 0, .slice none 0 0]) (by simp [results, Tryd.results14, go_sem, x0, x1, x2, xl]) rfl ⟨rfl, al_new _⟩
set_option maxRecDepth 100000 in
set_option maxHeartbeats 3200000 in
theorem own_walk (P : Nat → Bool) (k k0 : Bk) (n n0 : Nat) (e e0 : Nat → Option Ty) (g : Nat → Bool) (v : Nat) (w : World) (hT : TBk P w k (some (k0, n0, e0)) n e g) :
    Calls Tryd.prog 58 #[.pointer (some ⟨k.b, 0, none⟩), .int .i64 (v : Int)] w fun en w' => en = .returned (.bool (decide (n0 ≤ v))) ∧ w' = w := by
  obtain ⟨d0, d1, d2, d3, dl⟩ := bkc hT.me.box
  obtain ⟨c0, c1', c2, c3', cl⟩ := bkc (show w.heap[k0.b]? = _ from hT.up.1.box)
  have d0' : w.cell? ⟨k.b, 0, none⟩ = some (.pointer (some ⟨k0.b, 0, none⟩)) := d0
  clear hT d0
  go_enter Tryd.func58, Tryd.ntmps58
  go_wp2
  go_ret
  refine ⟨?_, rfl⟩
  by_cases h : n0 ≤ v
  · have : (n0 : Int) ≤ (v : Int) := by omega
    simp [h, this]
  · have : ¬ (n0 : Int) ≤ (v : Int) := by omega
    simp [h, this]
end Types
end Go.Proofs.YtjchplgapaeagaaDoor
