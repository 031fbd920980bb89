/-A type's variables are handed on, each in its order, to what the function (*enclave/unify.Book).trial$1 does. (Written by wip/tools/uneach.py.) A trial over a book: what stands within the types that it is made for is marked. (Written by wip/tools/untrial.py.) The program's trial. (Written by wip/tools/untrial2.py.) -/
import Derived.Test.YtjchplgapaeagaaDoorGV05
import Derived.LoopTactic
import Derived.Test.YtjchplgapaeagaaDoorGV07
namespace Go.Proofs.YtjchplgapaeagaaDoor
open Go.RowKit
set_option linter.unusedVariables false
set_option linter.unusedSimpArgs false
namespace Types

set_option maxRecDepth 100000 in
set_option maxHeartbeats 6400000 in
theorem eachT {α : Type} (Q : Nat → Bool) (w0 : World) (k1 : Value) (Inv : α → World → Prop) (step : α → Int → α) (ok : α → Int → Prop)
    (hC : ∀ a v W, Inv a W → ok a v → Calls Tryd.prog 49 #[.int .i64 v, k1] W fun en W' => en = .returned (.tuple #[]) ∧ Inv (step a v) W' ∧ Kp Q W W')
    (hI : ∀ a W O, Inv a W → Inv a (W.alloc O)) (hQ : ∀ b, w0.heap.size ≤ b → Q b = true) :
    ∀ (m : Nat) (ts : List Ty) (p : Option Addr) (l d : Nat) (a : α) (w : World), wts ts ≤ m → ts.length = l → l ≤ maxLen → Kids (veil Q w) p ts → w0.heap.size ≤ w.heap.size → Inv a w → EOk step ok a (evK ts) →
    Calls Tryd.prog 47 #[.func (.func 49) #[] #[k1], .slice p l d] w fun en w' => en = .returned (.tuple #[]) ∧ Inv ((evK ts).foldl step a) w' ∧ Kp Q w w' := by
  intro m
  induction m using Nat.strongRecOn with
  | _ m ih =>
    intro ts p l d a w hm hl hlm hk hw hi hok
    unfold maxLen at hlm
    have HM := Lib.hid hm; have HL := Lib.hid hl; have HKI := Lib.hid hk; have HW := Lib.hid hw; have HIN := Lib.hid hi; have HOK := Lib.hid hok; have IH := Lib.hid ih; have HC := Lib.hid hC; have HI := Lib.hid hI; have HQ := Lib.hid hQ
    clear hm hl hk hw hi hok ih hC hI hQ
    go_enter Tryd.func47, Tryd.ntmps47
    go_wp2_with (fail)
    go_loopw [8] (fun i wr => ∃ (j : Nat) (b : α), j ≤ l ∧ i = .int .i64 j ∧ Hid (Inv b wr) ∧ Hid ((evK ts).foldl step a = (evK (ts.drop j)).foldl step b) ∧ Hid (EOk step ok b (evK (ts.drop j))) ∧ Hid (Kp Q w wr)) (fun i _ => l - (intOf i).toNat)
    case atStart => exact ⟨0, a, Nat.zero_le _, rfl, HIN, Lib.hid (by rw [List.drop_zero]), Lib.hid (by rw [List.drop_zero]; exact HOK.out), Lib.hid (Kp.refl _ _)⟩
    case round =>
      obtain ⟨j, b, hj, rfl, HB, HF, HO, HK⟩ := hrel
      by_cases hlt : j < l
      · have hjk : j < ts.length := by rw [HL.out]; exact hlt
        have hkr := HK.out.kids HKI.out
        obtain ⟨bb, o, q, c', rfl, hkid, e0, e1, e2⟩ := hkr.get j hjk
        have c0 := (veil_seen e0).2
        have c1 := (veil_seen e1).2
        have c2 := (veil_seen e2).2
        have hwm : wts (tget ts j).ks < wts ts := by have h1 := wts_get hjk; have h2 := wt_ks (tget ts j); omega
        have hnew : Q wr.heap.size = true := HQ.out _ (by have := HW.out; have := HK.out.size; omega)
        have hev := evK_drop ts j hjk
        have HJK := Lib.hid hjk; have HKID := Lib.hid hkid; have HWM := Lib.hid hwm; have HN := Lib.hid hnew; have HEV := Lib.hid hev
        have HB1 := Lib.hid (HI.out b wr (.cells #[.int .u8 (tget ts j).h.k, .int .i64 (tget ts j).h.v, .slice q (tget ts j).ks.length c'] 25) HB.out)
        have HX := Lib.hid (heap_alloc_new wr (.cells #[.int .u8 (tget ts j).h.k, .int .i64 (tget ts j).h.v, .slice q (tget ts j).ks.length c'] 25))
        clear hjk hkr hkid hwm hnew hev e0 e1 e2 HB
        by_cases h5 : (tget ts j).h.k = 5
        · have h5' : ((tget ts j).h.k == 5) = true := by rw [h5]; rfl
          have hevt := HEV.out
          rw [evT_eq, if_pos h5] at hevt
          have ho := HO.out
          rw [hevt] at ho
          have HF2 := Lib.hid (HF.out.trans (by rw [hevt]; rfl : _ = (evK (tget ts j).ks ++ evK (ts.drop (j + 1))).foldl step (step b (tget ts j).h.v)))
          have HO1 := Lib.hid ho.1; have HO2 := Lib.hid (show EOk step ok (step b (tget ts j).h.v) (evK (tget ts j).ks ++ evK (ts.drop (j + 1))) from ho.2)
          have hcc := HC.out b (tget ts j).h.v _ HB1.out HO1.out
          have HCC := Lib.hid hcc
          clear hevt ho h5 hcc HF HO
          go_wp2_with (fail)
          refine HCC.out.mono ?_
          rintro en w1 ⟨rfl, hi1, hk1⟩
          have hx1 := (hk1.block _ (lt_of_block HX.out) HN.out).trans HX.out
          obtain ⟨⟨g0, g1, g2⟩, -, gl⟩ := c3 hx1
          have HK1 := Lib.hid ((HK.out.alloc _).trans hk1)
          have HI1 := Lib.hid hi1
          have hsp := eok_append HO2.out
          have HS1 := Lib.hid hsp.1; have HS2 := Lib.hid hsp.2
          have hih := IH.out (wts (tget ts j).ks) (by have := HWM.out; have := HM.out; omega) (tget ts j).ks q _ c' _ w1 (Nat.le_refl _) rfl (Nat.le_trans HKID.out.cap.1 HKID.out.cap.2) (((Kp.of_below (al_new _)).trans hk1).kids HKID.out.kids) (by have := HW.out; have := HK1.out.size; omega) HI1.out HS1.out
          have HIH := Lib.hid hih
          clear hx1 hi1 hk1 hsp hih c0 c1 c2 h5'
          go_wp2_with (fail)
          refine HIH.out.mono ?_
          rintro en w2 ⟨rfl, hi2, hk2⟩
          have HK2 := Lib.hid (HK1.out.trans hk2); have HI2 := Lib.hid hi2
          clear hi2 hk2 g0 g1 g2 gl
          go_wp2_with (fail)
          go_roundw
          case rel => exact ⟨j + 1, _, by omega, by go_num, HI2, Lib.hid (by rw [HF2.out, List.foldl_append]), HS2, HK2⟩
          case measure => simp [intOf]; omega
        · have h5' : ((tget ts j).h.k == 5) = false := beq_eq_false_iff_ne.2 h5
          have hevt := HEV.out
          rw [evT_eq, if_neg h5, List.nil_append] at hevt
          have ho := HO.out
          rw [hevt] at ho
          have HF2 := Lib.hid (HF.out.trans (by rw [hevt] : _ = (evK (tget ts j).ks ++ evK (ts.drop (j + 1))).foldl step b))
          have hsp := eok_append ho
          have HS1 := Lib.hid hsp.1; have HS2 := Lib.hid hsp.2
          have hk1 := HK.out.alloc (.cells #[.int .u8 (tget ts j).h.k, .int .i64 (tget ts j).h.v, .slice q (tget ts j).ks.length c'] 25)
          have HK1 := Lib.hid hk1
          have hih := IH.out (wts (tget ts j).ks) (by have := HWM.out; have := HM.out; omega) (tget ts j).ks q _ c' b (wr.alloc (.cells #[.int .u8 (tget ts j).h.k, .int .i64 (tget ts j).h.v, .slice q (tget ts j).ks.length c'] 25)) (Nat.le_refl _) rfl (Nat.le_trans HKID.out.cap.1 HKID.out.cap.2) ((Kp.of_below (al_new _)).kids HKID.out.kids) (by have := HW.out; have := HK1.out.size; omega) HB1.out HS1.out
          have HIH := Lib.hid hih
          clear hevt ho h5 hsp hk1 hih HF HO
          go_wp2_with (fail)
          refine HIH.out.mono ?_
          rintro en w2 ⟨rfl, hi2, hk2⟩
          have HK2 := Lib.hid (HK1.out.trans hk2); have HI2 := Lib.hid hi2
          clear hi2 hk2 c0 c1 c2
          go_wp2_with (fail)
          go_roundw
          case rel => exact ⟨j + 1, _, by omega, by go_num, HI2, Lib.hid (by rw [HF2.out, List.foldl_append]), HS2, HK2⟩
          case measure => simp [intOf]; omega
      · obtain rfl : j = l := by omega
        have hr := HF.out
        rw [List.drop_eq_nil_of_le (by rw [HL.out]; exact Nat.le_refl _), evK_nil] at hr
        have HR := Lib.hid (show Inv ((evK ts).foldl step a) wr by rw [hr]; exact HB.out)
        clear hr
        go_wp2_with (fail)
        exact bodyPost_end (results_none rfl _ _ _) rfl ⟨rfl, HR.out, HK.out⟩
end Types
end Go.Proofs.YtjchplgapaeagaaDoor
namespace Go.Proofs.YtjchplgapaeagaaDoor
open Go.RowKit
set_option linter.unusedVariables false
set_option linter.unusedSimpArgs false
namespace Types

theorem InAt.put {w' : World} {b : Nat} {g : Nat → Bool} {F : Nat → Option Value} {i : Nat} (h2 : ∀ i, (F i = none ∧ g i = false) ∨ (F i = some (.bool true) ∧ g i = true)) (hm : MapAt w' b (upd F i (some (.bool true)))) : InAt w' b (upd g i true) := by
  refine ⟨_, hm, fun j => ?_⟩
  by_cases e : j = i
  · subst e; rw [upd_same, upd_same]; exact .inr ⟨rfl, rfl⟩
  · rw [upd_other _ _ e, upd_other _ _ e]; exact h2 j
/-- The book, with one more mark. -/
theorem TBk.mark {P : Nat → Bool} {w w' : World} {k : Bk} {u : Up} {n : Nat} {e : Nat → Option Ty} {g : Nat → Bool} (h : TBk P w k u n e g) (hk : Kp (fun b => decide (b ≠ k.i)) w w') {i : Nat} (hs : InAt w' k.i (upd g i true)) (hi : i < n) (hu0 : ∀ x, u = some x → i < x.2.1) : TBk P w' k u n e (upd g i true) := by
  have hP : Kp P w w' := veil_kp h.me.pi hk
  have hg : ∀ m, i < m → (∀ v, g v = true → v < m) → ∀ v, upd g i true v = true → v < m := fun m hm hg v hv => by
    by_cases e : v = i
    · omega
    · rw [upd_other _ _ e] at hv; exact hg v hv
  refine ⟨{ h.me with box := (hk.block _ (lt_of_block h.me.box) (ne_true h.me.bi)).trans h.me.box, st := h.me.st.keep (hk.block _ h.me.st.lt (ne_true h.me.si)) hP.reads, inn := hs, glt := hg n hi h.me.glt }, ?_⟩
  have hu := h.up
  unfold UpOk at hu ⊢
  split
  · trivial
  · rename_i x
    obtain ⟨h1, h2, h3, h4, h5, h6, h7⟩ := hu
    exact ⟨{ h1 with box := (hk.block _ (lt_of_block h1.box) (ne_true (by rw [← h2]; exact h1.bi))).trans h1.box, st := h1.st.keep (hk.block _ h1.st.lt (ne_true (by rw [← h2]; exact h1.si))) hP.reads, inn := by rw [h2]; exact hs, glt := hg _ (hu0 x rfl) h1.glt }, h2, h3, h4, h5, h6, h7⟩
/-- What trial$1 relies on. -/
def TrV (P : Nat → Bool) (k : Bk) (n N : Nat) (nm : Nat → Nat) (st : Nat → Option Ty) (g : Nat → Bool) (W : World) : Prop :=
  W.heap[N]? = some (.cells #[.pointer (some ⟨k.b, 0, none⟩)] 28 (0, 0)) ∧ ∃ e, TBk P W k none n e g ∧ Rep e nm st
theorem cmb_none (e : Nat → Option Ty) : cmb none e = e := by
  funext v
  unfold cmb
  cases e v <;> rfl
theorem TrV.alloc {P : Nat → Bool} {k : Bk} {n N : Nat} {nm : Nat → Nat} {st : Nat → Option Ty} {g : Nat → Bool} {W : World} (h : TrV P k n N nm st g W) (O : Obj) : TrV P k n N nm st g (W.alloc O) := by
  obtain ⟨h1, e, h2, h3⟩ := h
  exact ⟨((al_new _).block _ (lt_of_block h1)).trans h1, e, h2.below (al_new _), h3⟩
set_option maxRecDepth 100000 in
set_option maxHeartbeats 6400000 in
theorem trial1_walk (P : Nat → Bool) (k : Bk) (n N : Nat) (nm : Nat → Nat) (st : Nat → Option Ty) (g : Nat → Bool) (v : Nat) (W : World) (hI : TrV P k n N nm st g W) (hv : v < n) (hNs : N ≠ k.s) (hNi : N ≠ k.i) :
    Calls Tryd.prog 49 #[.int .i64 (v : Int), .pointer (some ⟨N, 0, none⟩)] W fun en W' => en = .returned (.tuple #[]) ∧ TrV P k n N nm st (upd g (nm v) true) W' ∧ Kp (fun b => decide (b ≠ k.s ∧ b ≠ k.i)) W W' := by
  obtain ⟨hN, e, hT, hR⟩ := hI
  have hnw := name_walk P k none n e g nm st v W.drew (hT.below ⟨rfl, rfl, rfl, Nat.le_refl _, fun _ _ => rfl⟩) (by rw [cmb_none]; exact hR) hv
  have HN := Lib.hid hN; have HT := Lib.hid hT; have HV := Lib.hid (And.intro hv (And.intro hNs hNi)); have HNW := Lib.hid hnw; have HLE := Lib.hid (hR.le v)
  clear hN hT hR hnw hv hNs hNi
  go_enter Tryd.func49, Tryd.ntmps49
  go_upto_region 0 with (fail)
  refine wp_region_held_drew (S := fun V => ∀ b, b < W.heap.size → b ≠ k.s → b ≠ k.i → V.heap[b]? = W.heap[b]?) (by kernel_rfl) (fun _ _ _ _ => rfl) (fun hHeld => ?_)
  refine wpAnyH_take (i := 0) (v := .pointer (some ⟨k.b, 0, none⟩)) rfl (by kernel_rfl) (by kernel_rfl) (by kernel_rfl) (fun _ _ _ h => h) (Or.inl ⟨by rfl, ?_⟩) (by assumption) ?_
  · intro w' hSw
    obtain ⟨d0, -, dl⟩ := c1 ((hSw N (lt_of_block HN.out) HV.out.2.1 HV.out.2.2).trans HN.out)
    first | (go_simp; done) | rfl
  try simp only [Act.put, List.getElem_toArray, List.getElem_cons_succ, List.getElem_cons_zero, List.setIfInBounds_toArray, List.set_cons_zero, List.set_cons_succ]
  refine wpAnyH_take (i := 1) (v := .pointer (some ⟨k.b, 0, none⟩)) rfl (by kernel_rfl) (by kernel_rfl) (by kernel_rfl) (fun _ _ _ h => h) (Or.inl ⟨by rfl, ?_⟩) (by assumption) ?_
  · intro w' hSw
    first | (go_simp; done) | rfl
  try simp only [Act.put, List.getElem_toArray, List.getElem_cons_succ, List.getElem_cons_zero, List.setIfInBounds_toArray, List.set_cons_zero, List.set_cons_succ]
  refine wpAnyH_take (i := 2) (v := .pointer (some ⟨k.b, 3, none⟩)) rfl (by kernel_rfl) (by kernel_rfl) (by kernel_rfl) (fun _ _ _ h => h) (Or.inl ⟨by rfl, ?_⟩) (by assumption) ?_
  · intro w' hSw
    first | (go_simp; done) | rfl
  try simp only [Act.put, List.getElem_toArray, List.getElem_cons_succ, List.getElem_cons_zero, List.setIfInBounds_toArray, List.set_cons_zero, List.set_cons_succ]
  refine wpAnyH_take (i := 3) (v := .map (some k.i)) rfl (by kernel_rfl) (by kernel_rfl) (by kernel_rfl) (fun _ _ _ h => h) (Or.inl ⟨by rfl, ?_⟩) (by assumption) ?_
  · intro w' hSw
    obtain ⟨d0, d1, d2, d3, dl⟩ := bkc ((hSw k.b (lt_of_block HT.out.me.box) HT.out.me.bs HT.out.me.bi).trans HT.out.me.box)
    first | (go_simp; done) | rfl
  try simp only [Act.put, List.getElem_toArray, List.getElem_cons_succ, List.getElem_cons_zero, List.setIfInBounds_toArray, List.set_cons_zero, List.set_cons_succ]
  refine wpAnyH_take (i := 4) (v := .pointer (some ⟨k.b, 0, none⟩)) rfl (by kernel_rfl) (by kernel_rfl) (by kernel_rfl) (fun _ _ _ h => h) (Or.inl ⟨by rfl, ?_⟩) (by assumption) ?_
  · intro w' hSw
    obtain ⟨d0, -, dl⟩ := c1 ((hSw N (lt_of_block HN.out) HV.out.2.1 HV.out.2.2).trans HN.out)
    first | (go_simp; done) | rfl
  try simp only [Act.put, List.getElem_toArray, List.getElem_cons_succ, List.getElem_cons_zero, List.setIfInBounds_toArray, List.set_cons_zero, List.set_cons_succ]
  refine wpAnyH_take (i := 5) (v := .int .i64 (v : Int)) rfl (by kernel_rfl) (by kernel_rfl) (by kernel_rfl) (fun _ _ _ h => h) (Or.inl ⟨by rfl, ?_⟩) (by assumption) ?_
  · intro w' hSw
    first | (go_simp; done) | rfl
  try simp only [Act.put, List.getElem_toArray, List.getElem_cons_succ, List.getElem_cons_zero, List.setIfInBounds_toArray, List.set_cons_zero, List.set_cons_succ]
  refine wpAnyH_ready (rs := [6]) (by kernel_rfl) (by simp) ?_
  refine AllReadyH.cons rfl (fun K hK => ?_) AllReadyH.nil
  have HK2 := Lib.hid hK
  clear hK
  try rw [if_pos (by rfl)]
  go_simp
  refine HNW.out.mono ?_
  rintro en w1 ⟨rfl, e1, hT1, hR1, hk1⟩
  rw [cmb_none] at hR1
  have hoff1 : ∀ b, b < W.heap.size → b ≠ k.s → b ≠ k.i → w1.heap[b]? = W.heap[b]? := fun b hb h1 h2 => hk1.block b hb (ne_true h1)
  have HT1 := Lib.hid hT1; have HR1 := Lib.hid hR1; have HK1 := Lib.hid hk1; have HO1 := Lib.hid hoff1
  clear hT1 hR1 hk1 hoff1 HNW
  refine HK2.out _ _ HO1.out (fun hHeld => ?_)
  clear HK2
  try simp only [Act.put, List.getElem_toArray, List.getElem_cons_succ, List.getElem_cons_zero, List.setIfInBounds_toArray, List.set_cons_zero, List.set_cons_succ]
  clear K
  refine wpAnyH_ready (rs := [7]) (by kernel_rfl) (by simp) ?_
  refine AllReadyH.cons rfl (fun K hK => ?_) AllReadyH.nil
  have HK2 := Lib.hid hK
  clear hK
  try rw [if_pos (by rfl)]
  obtain ⟨F, hM, hF⟩ := HT1.out.me.inn
  have hnv : nm v < n := by have := HLE.out; have := HV.out.1; omega
  have hFn : ∀ i, KeyOk i → F i ≠ none → i < n + 1 := fun i _ hi => by
    rcases hF i with ⟨a, _⟩ | ⟨_, a⟩
    · exact absurd a hi
    · have := HT1.out.me.glt i a; omega
  refine wp_store 57 4 Tryd.underlying57 k.i (n + 1) (nm v) F (.bool true) rfl rfl rfl hM hFn (by have := HT1.out.me.few; unfold maxLen; omega) (keyOk_of (by have := HT1.out.me.few; omega)) (fun w5 hm hg hs => ?_)
  have hkp : Kp (fun b => decide (b ≠ k.i)) w1 w5 := ⟨hg.os, hg.tape, hg.output, Nat.le_of_eq hs.symm, fun b hb hp => store_off hg hs (of_decide_eq_true hp)⟩
  have hmk := HT1.out.mark hkp (InAt.put hF hm) hnv (fun x hx => by cases hx)
  have hWl : W.heap.size ≤ w1.heap.size := by have := HK1.out.size; exact this
  have hN5 : w5.heap[N]? = some (.cells #[.pointer (some ⟨k.b, 0, none⟩)] 28 (0, 0)) := (hkp.block _ (Nat.lt_of_lt_of_le (lt_of_block HN.out) hWl) (ne_true HV.out.2.2)).trans ((HK1.out.block _ (lt_of_block HN.out) (ne_true HV.out.2.1)).trans HN.out)
  have hk5 : Kp (fun b => decide (b ≠ k.s ∧ b ≠ k.i)) W w5 := by
    have a : Kp (fun b => decide (b ≠ k.s ∧ b ≠ k.i)) W w1 := ⟨HK1.out.os, HK1.out.tape, HK1.out.output, HK1.out.size, fun b hb hp => HK1.out.block b hb (ne_true (of_decide_eq_true hp).1)⟩
    exact a.trans (hkp.mono fun b hb => decide_eq_true (of_decide_eq_true hb).2)
  have HFIN := Lib.hid (And.intro (show TrV P k n N nm st (upd g (nm v) true) w5 from ⟨hN5, e1, hmk, HR1.out⟩) hk5)
  have HS5 := Lib.hid (fun b (hb : b < W.heap.size) (h1 : b ≠ k.s) (h2 : b ≠ k.i) => hk5.block b hb (decide_eq_true ⟨h1, h2⟩))
  clear hM hF hFn hm hg hs hkp hmk hWl hN5 hk5 hnv
  refine HK2.out _ _ HS5.out (fun hHeld => ?_)
  clear HK2
  try simp only [Act.put, List.getElem_toArray, List.getElem_cons_succ, List.getElem_cons_zero, List.setIfInBounds_toArray, List.set_cons_zero, List.set_cons_succ]
  clear K
  refine wpAnyH_done (by kernel_rfl) ?_ _
  clear hHeld
  go_wp2_with (fail)
  exact bodyPost_end (results_none rfl _ _ _) rfl ⟨rfl, HFIN.out⟩
end Types
end Go.Proofs.YtjchplgapaeagaaDoor
namespace Go.Proofs.YtjchplgapaeagaaDoor
open Go.RowKit
set_option linter.unusedVariables false
set_option linter.unusedSimpArgs false
namespace Types

/-- What is marked: what stands strictly within types, by its names. -/
def markS (nm : Nat → Nat) (g : Nat → Bool) (v : Int) : Nat → Bool := upd g (nm v.toNat) true
def marks (nm : Nat → Nat) (g : Nat → Bool) (ts : List Ty) : Nat → Bool := ts.foldl (fun g t => (evK t.ks).foldl (markS nm) g) g
theorem marks_snoc (nm : Nat → Nat) (g : Nat → Bool) (ts : List Ty) (t : Ty) : marks nm g (ts ++ [t]) = (evK t.ks).foldl (markS nm) (marks nm g ts) := by unfold marks; rw [List.foldl_append]; rfl
theorem markS_more (nm : Nat → Nat) : ∀ (l : List Int) (g : Nat → Bool) (v : Nat), g v = true → l.foldl (markS nm) g v = true
  | [], g, v, h => h
  | x :: l, g, v, h => by
    rw [List.foldl_cons]
    refine markS_more nm l _ v ?_
    unfold markS
    by_cases e : v = nm x.toNat
    · subst e; exact upd_same _ _ _
    · rw [upd_other _ _ e]; exact h
theorem markS_in (nm : Nat → Nat) : ∀ (l : List Int) (g : Nat → Bool) (v : Int), v ∈ l → l.foldl (markS nm) g (nm v.toNat) = true
  | x :: l, g, v, h => by
    rw [List.foldl_cons]
    rcases List.mem_cons.1 h with rfl | h
    · exact markS_more nm l _ _ (upd_same _ _ _)
    · exact markS_in nm l _ v h
theorem marks_more (nm : Nat → Nat) : ∀ (ts : List Ty) (g : Nat → Bool) (v : Nat), g v = true → marks nm g ts v = true
  | [], g, v, h => h
  | t :: ts, g, v, h => marks_more nm ts _ v (markS_more nm _ g v h)
theorem marks_in (nm : Nat → Nat) : ∀ (ts : List Ty) (g : Nat → Bool) (t : Ty) (v : Int), t ∈ ts → v ∈ evK t.ks → marks nm g ts (nm v.toNat) = true
  | u :: ts, g, t, v, ht, hv => by
    rcases List.mem_cons.1 ht with rfl | ht
    · exact marks_more nm ts _ _ (markS_in nm _ g v hv)
    · exact marks_in nm ts _ t v ht hv
theorem StAt.keep2 {P P' : Nat → Bool} {w w' : World} {b : Nat} {f : Nat → Option Ty} (h : StAt P w b f) (hb : w'.heap[b]? = w.heap[b]?) (hr : Reads (veil P w) (veil P' w')) : StAt P' w' b f := by
  obtain ⟨F, h1, h2⟩ := h
  refine ⟨F, h1.of_block hb, fun i => (h2 i).imp _root_.id ?_⟩
  rintro ⟨t, h, p, l, c, e1, e2, hT⟩
  exact ⟨t, h, p, l, c, e1, e2, hT.reads' hr⟩
theorem TBk.trial {P : Nat → Bool} {w : World} {k : Bk} {n : Nat} {e : Nat → Option Ty} {g : Nat → Bool} (h : TBk P w k none n e g) {P' : Nat → Bool} (hp : ∀ x, x < w.heap.size → P' x = P x) (h0 : P' w.heap.size = false) (h1 : P' (w.heap.size + 1) = false) :
    TBk P' ((w.alloc (.map #[] 0)).alloc (.cells (bkCells ⟨w.heap.size + 1, w.heap.size, k.i⟩ (some ⟨k.b, 0, none⟩) n) 59)) ⟨w.heap.size + 1, w.heap.size, k.i⟩ (some (k, n, e)) n (fun _ => none) g := by
  obtain ⟨⟨lb, ls, li⟩, -⟩ := h.all_low
  have m1 := MapAt.new w
  have z1 : (w.alloc (.map #[] 0)).heap.size = w.heap.size + 1 := by simp
  have b1 := al_new (W := w) (.map #[] 0)
  have b2 := al_new (W := w.alloc (.map #[] 0)) (.cells (bkCells ⟨w.heap.size + 1, w.heap.size, k.i⟩ (some ⟨k.b, 0, none⟩) n) 59)
  have hn := heap_alloc_new (w.alloc (.map #[] 0)) (.cells (bkCells ⟨w.heap.size + 1, w.heap.size, k.i⟩ (some ⟨k.b, 0, none⟩) n) 59)
  rw [z1] at hn b2
  have hbl : ∀ b, b < w.heap.size → ((w.alloc (.map #[] 0)).alloc (.cells (bkCells ⟨w.heap.size + 1, w.heap.size, k.i⟩ (some ⟨k.b, 0, none⟩) n) 59)).heap[b]? = w.heap[b]? := fun b hb => (b2.block b (by omega)).trans (b1.block b hb)
  have hr : Reads (veil P w) (veil P' ((w.alloc (.map #[] 0)).alloc (.cells (bkCells ⟨w.heap.size + 1, w.heap.size, k.i⟩ (some ⟨k.b, 0, none⟩) n) 59))) := veil_to fun b hb hq => ⟨(hp b hb).trans hq, hbl b hb⟩
  refine ⟨⟨hn, ⟨_, m1.of_block (b2.block _ (by omega)), fun i => .inl ⟨rfl, rfl⟩⟩, h.me.inn.keep (hbl _ li), h1, h0, (hp _ li).trans h.me.pi, by show w.heap.size + 1 ≠ w.heap.size; omega, by show w.heap.size + 1 ≠ k.i; omega, by show w.heap.size ≠ k.i; omega, fun v t e => (by cases e), h.me.glt, h.me.few⟩, ?_⟩
  exact ⟨{ h.me with box := (hbl _ lb).trans h.me.box, st := h.me.st.keep2 (hbl _ ls) hr, inn := h.me.inn.keep (hbl _ li), pb := (hp _ lb).trans h.me.pb, ps := (hp _ ls).trans h.me.ps, pi := (hp _ li).trans h.me.pi }, rfl, by show k.b ≠ w.heap.size + 1; omega, by show k.s ≠ w.heap.size; omega, by show k.b ≠ w.heap.size; omega, by show k.s ≠ w.heap.size + 1; omega, Nat.le_refl _⟩
/-- How it ends. -/
def TriEnd (P : Nat → Bool) (k : Bk) (n : Nat) (nm : Nat → Nat) (st : Nat → Option Ty) (g : Nat → Bool) (ts : List Ty) (w : World) (en : Ending) (w' : World) : Prop :=
  ∃ (s : Nat) (e : Nat → Option Ty), en = .returned (.pointer (some ⟨s + 1, 0, none⟩)) ∧ w.heap.size ≤ s ∧ w'.heap.size = s + 2 ∧
    (∀ P' : Nat → Bool, (∀ x, x < s → P' x = P x) → P' s = false → P' (s + 1) = false → TBk P' w' ⟨s + 1, s, k.i⟩ (some (k, n, e)) n (fun _ => none) (marks nm g ts)) ∧ Rep e nm st ∧ Kp (fun b => decide (b ≠ k.s ∧ b ≠ k.i)) w w'
set_option maxRecDepth 100000 in
set_option maxHeartbeats 12800000 in
theorem trial_walk (P : Nat → Bool) (k : Bk) (n : Nat) (e : Nat → Option Ty) (g : Nat → Bool) (nm : Nat → Nat) (st : Nat → Option Ty) (ts : List Ty) (p : Option Addr) (l d : Nat) (w : World) (hT : TBk P w k none n e g) (hR : Rep e nm st) (hK : Kids (veil P w) p ts) (hl : ts.length = l) (hlm : l ≤ maxLen) (hm : ∀ s ∈ ts, mayT s = true) (hv : ∀ s ∈ ts, ∀ v ∈ varsT s, v < n) :
    Calls Tryd.prog 33 #[.pointer (some ⟨k.b, 0, none⟩), .slice p l d] w (TriEnd P k n nm st g ts w) := by
  have hmm := @run_makeMap Tryd.prog
  have h0 : TrV P k n w.heap.size nm st g (w.alloc (.cells #[.pointer (some ⟨k.b, 0, none⟩)] 28)) := ⟨heap_alloc_new w _, e, hT.below (al_new _), hR⟩
  have hlow := hT.all_low.1
  have hKQ : ∀ W, Kp (fun b => decide (b ≠ k.s ∧ b ≠ k.i)) w W → Kids (veil (fun b => decide (b ≠ k.s ∧ b ≠ k.i)) W) p ts ∧ Kids (veil P W) p ts := fun W h => by
    have hP : Kp P w W := h.mono fun b hb => decide_eq_true ⟨fun e => (by subst e; rw [hT.me.ps] at hb; cases hb), fun e => (by subst e; rw [hT.me.pi] at hb; cases hb)⟩
    have h1 := hP.kids hK
    exact ⟨h1.reads' (veil_to fun b _ hb => ⟨decide_eq_true ⟨fun e => (by subst e; rw [hT.me.ps] at hb; cases hb), fun e => (by subst e; rw [hT.me.pi] at hb; cases hb)⟩, rfl⟩), h1⟩
  unfold maxLen at hlm
  have H0 := Lib.hid h0; have HLOW := Lib.hid hlow; have HKQ := Lib.hid hKQ; have HL := Lib.hid hl; have HM := Lib.hid hm; have HV := Lib.hid hv; have HR := Lib.hid hR
  clear h0 hlow hKQ hl hm hv hK hT hR
  go_enter Tryd.func33, Tryd.ntmps33
  go_wp2_with (fail)
  go_loopw [9] (fun i wr => ∃ j : Nat, j ≤ l ∧ i = .int .i64 j ∧ Hid (TrV P k n w.heap.size nm st (marks nm g (ts.take j)) wr) ∧ Hid (Kp (fun b => decide (b ≠ k.s ∧ b ≠ k.i)) w wr)) (fun i _ => l - (intOf i).toNat)
  case atStart => exact ⟨0, Nat.zero_le _, rfl, Lib.hid (by rw [List.take_zero]; exact H0.out), Lib.hid ((Kp.refl _ _).alloc _)⟩
  case round =>
    obtain ⟨j, hj, rfl, HI, HK⟩ := hrel
    by_cases hlt : j < l
    · have hjk : j < ts.length := by rw [HL.out]; exact hlt
      obtain ⟨hkq, -⟩ := HKQ.out wr HK.out
      obtain ⟨bb, o, q, c', rfl, hkid, e0, e1, e2⟩ := hkq.get j hjk
      have f0 := (veil_seen e0).2
      have f1 := (veil_seen e1).2
      have f2 := (veil_seen e2).2
      have hmj := HM.out _ (tget_mem hjk)
      have hvj := HV.out _ (tget_mem hjk)
      have hev := evK_vars (tget ts j).ks fun u hu => may_mem hmj hu
      have hok : EOk (markS nm) (fun _ v => 0 ≤ v ∧ v < (n : Int)) (marks nm g (ts.take j)) (evK (tget ts j).ks) := by
        rw [hev]
        have : ∀ (l : List Nat) (a : Nat → Bool), (∀ v ∈ l, v < n) → EOk (markS nm) (fun _ v => 0 ≤ v ∧ v < (n : Int)) a (l.map fun v => ((v : Nat) : Int)) := by
          intro l
          induction l with
          | nil => intro _ _; exact trivial
          | cons x l ih => intro a hx; exact ⟨⟨show (0:Int) ≤ ((x:Nat):Int) by omega, show ((x:Nat):Int) < _ by have := hx x (by simp); omega⟩, ih _ fun v hv => hx v (by simp [hv])⟩
        exact this _ _ fun v hv => hvj v (by rw [varsT_eq]; exact List.mem_append_right _ hv)
      have hsz : w.heap.size ≤ wr.heap.size := HK.out.size
      have he := eachT (fun b => decide (b ≠ k.s ∧ b ≠ k.i)) w (.pointer (some ⟨w.heap.size, 0, none⟩)) (fun g W => TrV P k n w.heap.size nm st g W) (markS nm) (fun _ v => 0 ≤ v ∧ v < (n : Int))
        (fun a v W hI hv => by
          obtain ⟨x, rfl⟩ : ∃ x : Nat, v = (x : Int) := ⟨v.toNat, by omega⟩
          have := trial1_walk P k n w.heap.size nm st a x W hI (by omega) (by have := HLOW.out.2.1; omega) (by have := HLOW.out.2.2; omega)
          exact this)
        (fun a W O h => h.alloc O) (fun b hb => decide_eq_true ⟨by have := HLOW.out.2.1; omega, by have := HLOW.out.2.2; omega⟩) (wts (tget ts j).ks) (tget ts j).ks q (tget ts j).ks.length c' (marks nm g (ts.take j)) (wr.alloc (.cells #[.int .u8 (tget ts j).h.k, .int .i64 (tget ts j).h.v, .slice q (tget ts j).ks.length c'] 25)) (Nat.le_refl _) rfl (Nat.le_trans hkid.cap.1 hkid.cap.2)
        (((Kp.of_below (al_new (.cells #[.int .u8 (tget ts j).h.k, .int .i64 (tget ts j).h.v, .slice q (tget ts j).ks.length c'] 25))).kids hkid.kids)) (by simp; omega) (HI.out.alloc _) hok
      rw [← marks_snoc, ← take_tget ts j hjk] at he
      have HE := Lib.hid he; have HK1 := Lib.hid (HK.out.alloc (.cells #[.int .u8 (tget ts j).h.k, .int .i64 (tget ts j).h.v, .slice q (tget ts j).ks.length c'] 25))
      clear hjk hkq hkid hmj hvj hev hok hsz he e0 e1 e2 HI HK
      go_wp2_with (fail)
      refine HE.out.mono ?_
      rintro en w1 ⟨rfl, hi1, hk1⟩
      have HI1 := Lib.hid hi1; have HK2 := Lib.hid (HK1.out.trans hk1)
      clear hi1 hk1 f0 f1 f2 HE
      go_wp2_with (fail)
      go_roundw
      case rel => exact ⟨j + 1, by omega, by go_num, HI1, HK2⟩
      case measure => simp [intOf]; omega
    · obtain rfl : j = l := by omega
      have hI := HI.out
      rw [List.take_of_length_le (by rw [HL.out]; exact Nat.le_refl _)] at hI
      obtain ⟨hN, e1, hT1, hR1⟩ := hI
      have HN := Lib.hid hN; have HT1 := Lib.hid hT1; have HR1 := Lib.hid hR1
      clear hN hT1 hR1 HI H0
      go_upto_region 6 with (fail)
      refine wp_region_held_drew (S := fun V => ∀ b, b < wr.heap.size → V.heap[b]? = wr.heap[b]?) (by kernel_rfl) (fun _ _ => rfl) (fun hHeld => ?_)
      refine wpAnyH_take (i := 0) (v := .pointer (some ⟨k.b, 0, none⟩)) rfl (by kernel_rfl) (by kernel_rfl) (by kernel_rfl) (fun _ _ _ h => h) (Or.inl ⟨by rfl, ?_⟩) (by assumption) ?_
      · intro w' hSw
        obtain ⟨d0, -, dl⟩ := c1 ((hSw _ (lt_of_block HN.out)).trans HN.out)
        first | (go_simp; done) | rfl
      try simp only [Act.put, List.getElem_toArray, List.getElem_cons_succ, List.getElem_cons_zero, List.setIfInBounds_toArray, List.set_cons_zero, List.set_cons_succ]
      refine wpAnyH_take (i := 1) (v := .pointer (some ⟨k.b, 0, none⟩)) rfl (by kernel_rfl) (by kernel_rfl) (by kernel_rfl) (fun _ _ _ h => h) (Or.inl ⟨by rfl, ?_⟩) (by assumption) ?_
      · intro w' hSw
        obtain ⟨d0, -, dl⟩ := c1 ((hSw _ (lt_of_block HN.out)).trans HN.out)
        first | (go_simp; done) | rfl
      try simp only [Act.put, List.getElem_toArray, List.getElem_cons_succ, List.getElem_cons_zero, List.setIfInBounds_toArray, List.set_cons_zero, List.set_cons_succ]
      refine wpAnyH_take (i := 2) (v := .pointer (some ⟨k.b, 0, none⟩)) rfl (by kernel_rfl) (by kernel_rfl) (by kernel_rfl) (fun _ _ _ h => h) (Or.inl ⟨by rfl, ?_⟩) (by assumption) ?_
      · intro w' hSw
        first | (go_simp; done) | rfl
      try simp only [Act.put, List.getElem_toArray, List.getElem_cons_succ, List.getElem_cons_zero, List.setIfInBounds_toArray, List.set_cons_zero, List.set_cons_succ]
      refine wpAnyH_take (i := 3) (v := .pointer (some ⟨k.b, 1, none⟩)) rfl (by kernel_rfl) (by kernel_rfl) (by kernel_rfl) (fun _ _ _ h => h) (Or.inl ⟨by rfl, ?_⟩) (by assumption) ?_
      · intro w' hSw
        first | (go_simp; done) | rfl
      try simp only [Act.put, List.getElem_toArray, List.getElem_cons_succ, List.getElem_cons_zero, List.setIfInBounds_toArray, List.set_cons_zero, List.set_cons_succ]
      refine wpAnyH_take (i := 4) (v := .int .i64 (n : Int)) rfl (by kernel_rfl) (by kernel_rfl) (by kernel_rfl) (fun _ _ _ h => h) (Or.inl ⟨by rfl, ?_⟩) (by assumption) ?_
      · intro w' hSw
        obtain ⟨d0, d1, d2, d3, dl⟩ := bkc ((hSw k.b (lt_of_block HT1.out.me.box)).trans HT1.out.me.box)
        first | (go_simp; done) | rfl
      try simp only [Act.put, List.getElem_toArray, List.getElem_cons_succ, List.getElem_cons_zero, List.setIfInBounds_toArray, List.set_cons_zero, List.set_cons_succ]
      refine wpAnyH_take (i := 6) (v := .pointer (some ⟨k.b, 0, none⟩)) rfl (by kernel_rfl) (by kernel_rfl) (by kernel_rfl) (fun _ _ _ h => h) (Or.inl ⟨by rfl, ?_⟩) (by assumption) ?_
      · intro w' hSw
        obtain ⟨d0, -, dl⟩ := c1 ((hSw _ (lt_of_block HN.out)).trans HN.out)
        first | (go_simp; done) | rfl
      try simp only [Act.put, List.getElem_toArray, List.getElem_cons_succ, List.getElem_cons_zero, List.setIfInBounds_toArray, List.set_cons_zero, List.set_cons_succ]
      refine wpAnyH_take (i := 7) (v := .pointer (some ⟨k.b, 0, none⟩)) rfl (by kernel_rfl) (by kernel_rfl) (by kernel_rfl) (fun _ _ _ h => h) (Or.inl ⟨by rfl, ?_⟩) (by assumption) ?_
      · intro w' hSw
        first | (go_simp; done) | rfl
      try simp only [Act.put, List.getElem_toArray, List.getElem_cons_succ, List.getElem_cons_zero, List.setIfInBounds_toArray, List.set_cons_zero, List.set_cons_succ]
      refine wpAnyH_take (i := 8) (v := .pointer (some ⟨k.b, 3, none⟩)) rfl (by kernel_rfl) (by kernel_rfl) (by kernel_rfl) (fun _ _ _ h => h) (Or.inl ⟨by rfl, ?_⟩) (by assumption) ?_
      · intro w' hSw
        first | (go_simp; done) | rfl
      try simp only [Act.put, List.getElem_toArray, List.getElem_cons_succ, List.getElem_cons_zero, List.setIfInBounds_toArray, List.set_cons_zero, List.set_cons_succ]
      refine wpAnyH_take (i := 9) (v := .map (some k.i)) rfl (by kernel_rfl) (by kernel_rfl) (by kernel_rfl) (fun _ _ _ h => h) (Or.inl ⟨by rfl, ?_⟩) (by assumption) ?_
      · intro w' hSw
        obtain ⟨d0, d1, d2, d3, dl⟩ := bkc ((hSw k.b (lt_of_block HT1.out.me.box)).trans HT1.out.me.box)
        first | (go_simp; done) | rfl
      try simp only [Act.put, List.getElem_toArray, List.getElem_cons_succ, List.getElem_cons_zero, List.setIfInBounds_toArray, List.set_cons_zero, List.set_cons_succ]
      refine wpAnyH_ready (rs := [5]) (by kernel_rfl) (by simp) ?_
      refine AllReadyH.cons rfl (fun K hK => ?_) AllReadyH.nil
      have HK2 := Lib.hid hK
      clear hK
      try rw [if_pos (by rfl)]
      have HEQ := Lib.hid (show wr.heap.size = wr.heap.size from rfl)
      try simp only [Act.run, hmm]
      go_simp
      refine HK2.out _ _ (fun b hb => (al_new _).block b hb) (fun hHeld => ?_)
      clear HK2
      try simp only [Act.put, List.getElem_toArray, List.getElem_cons_succ, List.getElem_cons_zero, List.setIfInBounds_toArray, List.set_cons_zero, List.set_cons_succ]
      clear K
      refine wpAnyH_take (i := 10) (v := .agg #[.pointer (some ⟨k.b, 0, none⟩), .int .i64 (n : Int), .map (some wr.heap.size), .map (some k.i)]) rfl (by kernel_rfl) (by kernel_rfl) (by kernel_rfl) (fun _ _ _ h => h) (Or.inl ⟨by rfl, ?_⟩) (by assumption) ?_
      · intro w' hSw
        first | (go_simp; done) | rfl
      try simp only [Act.put, List.getElem_toArray, List.getElem_cons_succ, List.getElem_cons_zero, List.setIfInBounds_toArray, List.set_cons_zero, List.set_cons_succ]
      refine wpAnyH_ready (rs := [11]) (by kernel_rfl) (by simp) ?_
      refine AllReadyH.cons rfl (fun K hK => ?_) AllReadyH.nil
      have HK2 := Lib.hid hK
      clear hK
      try rw [if_pos (by rfl)]
      go_simp
      refine HK2.out _ _ (fun b hb => ((al_new _).block b (by simp; omega)).trans ((al_new _).block b hb)) (fun hHeld => ?_)
      clear HK2
      try simp only [Act.put, List.getElem_toArray, List.getElem_cons_succ, List.getElem_cons_zero, List.setIfInBounds_toArray, List.set_cons_zero, List.set_cons_succ]
      clear K
      refine wpAnyH_take (i := 12) (v := .pointer (some ⟨wr.heap.size + 1, 0, none⟩)) rfl (by kernel_rfl) (by kernel_rfl) (by kernel_rfl) (fun _ _ _ h => h) (Or.inl ⟨by rfl, ?_⟩) (by assumption) ?_
      · intro w' hSw
        first | (go_simp; done) | rfl
      try simp only [Act.put, List.getElem_toArray, List.getElem_cons_succ, List.getElem_cons_zero, List.setIfInBounds_toArray, List.set_cons_zero, List.set_cons_succ]
      refine wpAnyH_done (by kernel_rfl) ?_ _
      clear hHeld
      go_wp2_with (fail)
      go_ret
      exact ⟨wr.heap.size, e1, rfl, HK.out.size, by simp, fun P' hp h0 h1 => (HT1.out.trial hp h0 h1).below ⟨rfl, rfl, rfl, Nat.le_refl _, fun _ _ => rfl⟩, HR1.out, ((HK.out.alloc _).alloc _).drew⟩
end Types
end Go.Proofs.YtjchplgapaeagaaDoor
