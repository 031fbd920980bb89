/-Unification: an order in which each name is ahead of those that stand within it. A type's variables are handed on, each in its order, to what the function (*enclave/unify.Book).left$1 does. (Written by wip/tools/uneach.py.) How many nodes are left: what is done at a variable. (Written by wip/tools/unleft.py.) -/
import Derived.Test.YtjchplgapaeagaaDoorGV03
import Derived.Test.YtjchplgapaeagaaDoorGV11
import Derived.Test.YtjchplgapaeagaaDoorGV05
import Derived.LoopTactic
import Derived.Test.YtjchplgapaeagaaDoorGV10
namespace Go.Proofs.YtjchplgapaeagaaDoor
set_option linter.unusedVariables false
namespace Types

theorem nodup_sub : ∀ {L M : List Nat}, L.Nodup → (∀ x ∈ L, x ∈ M) → L.length ≤ M.length
  | [], M, _, _ => Nat.zero_le _
  | x :: L, M, hd, hs => by
    have hx := hs x (by simp)
    obtain ⟨h1, h2⟩ := List.nodup_cons.1 hd
    have h3 := nodup_sub (L := L) (M := M.erase x) h2 fun y hy => (List.mem_erase_of_ne (fun e => h1 (by rw [← e]; exact hy))).2 (hs y (by simp [hy]))
    have h4 := List.length_erase_of_mem hx
    have h5 : 0 < M.length := List.length_pos_of_mem hx
    simp only [List.length_cons]
    omega
theorem nodup_few {L : List Nat} {n : Nat} (hd : L.Nodup) (h : ∀ x ∈ L, x < n) : L.length ≤ n := by
  have := nodup_sub hd (M := List.range n) fun x hx => List.mem_range.2 (h x hx)
  rwa [List.length_range] at this
theorem nodup_all {L M : List Nat} (hd : L.Nodup) (hs : ∀ x ∈ L, x ∈ M) (hm : M.length ≤ L.length) : ∀ x ∈ M, x ∈ L := fun x hx => by
  refine Classical.byContradiction fun hn => ?_
  have := nodup_sub (L := x :: L) (M := M) (List.nodup_cons.2 ⟨hn, hd⟩) fun y hy => by
    rcases List.mem_cons.1 hy with rfl | hy
    · exact hx
    · exact hs y hy
  simp only [List.length_cons] at this
  omega
theorem nodup_snoc {L : List Nat} {x : Nat} (hd : L.Nodup) (hx : x ∉ L) : (L ++ [x]).Nodup := by
  rw [List.nodup_append]
  refine ⟨hd, List.nodup_cons.2 ⟨by simp, List.nodup_nil⟩, fun a ha b hb => ?_⟩
  rw [List.mem_singleton] at hb
  subst hb
  exact fun e => hx (e ▸ ha)
/-- The names that stand within a name's type. -/
def namesN (nm : Nat → Nat) (st : Nat → Option Ty) (p : Nat) : List Nat := (varsT (tyO (st p))).map nm
/-- At how many places a name stands within some names' types. -/
def occN (n : Nat) (nm : Nat → Nat) (st : Nat → Option Ty) (L : List Nat) (c : Nat) : Nat := sumN n fun p => if p ∈ L then (namesN nm st p).count c else 0
section
variable {n : Nat} {nm : Nat → Nat} {st : Nat → Option Ty}
theorem occ_nil (c : Nat) : occN n nm st [] c = 0 := by
  unfold occN
  rw [sumN_congr (H := fun _ => 0) fun v _ => by simp, sumN_zero]
theorem occ_snoc {L : List Nat} {p : Nat} (hp : p < n) (hL : p ∉ L) (c : Nat) : occN n nm st (L ++ [p]) c = occN n nm st L c + (namesN nm st p).count c := by
  unfold occN
  have h := sumN_upd (n := n) (F := fun q => if q ∈ L then (namesN nm st q).count c else 0) (v := p) (x := (namesN nm st p).count c) hp
  have e := sumN_congr (n := n) (F := fun q => if q ∈ L ++ [p] then (namesN nm st q).count c else 0) (H := upd (fun q => if q ∈ L then (namesN nm st q).count c else 0) p ((namesN nm st p).count c)) fun q _ => by
    by_cases hq : q = p
    · subst hq; rw [upd_same]; simp
    · rw [upd_other _ _ hq]; simp [hq]
  rw [e]
  simp only [hL, if_false] at h
  omega
theorem occ_le {L M : List Nat} (h : ∀ x ∈ L, x ∈ M) (c : Nat) : occN n nm st L c ≤ occN n nm st M c := sumN_le fun v _ => by
  by_cases hv : v ∈ L
  · rw [if_pos hv, if_pos (h v hv)]; exact Nat.le_refl _
  · rw [if_neg hv]; exact Nat.zero_le _
theorem occ_pos {L : List Nat} {p c : Nat} (hp : p < n) (hL : p ∈ L) (hc : c ∈ namesN nm st p) : 0 < occN n nm st L c := by
  have h := sumN_upd (n := n) (F := fun q => if q ∈ L then (namesN nm st q).count c else 0) (v := p) (x := 0) hp
  have h2 : 0 < (namesN nm st p).count c := List.count_pos_iff.2 hc
  simp only [hL, if_true] at h
  unfold occN
  omega
theorem occ_parent {L : List Nat} {c : Nat} (h : 0 < occN n nm st L c) : ∃ p ∈ L, p < n ∧ c ∈ namesN nm st p := by
  refine Classical.byContradiction fun hn => ?_
  have : occN n nm st L c = 0 := by
    unfold occN
    rw [sumN_congr (H := fun _ => 0) fun v hv => ?_, sumN_zero]
    by_cases hL : v ∈ L
    · rw [if_pos hL]
      refine List.count_eq_zero.2 fun hc => hn ⟨v, hL, hv, hc⟩
    · rw [if_neg hL]
  omega
/-- Where the places are as many, who has it is among the fewer. -/
theorem occ_eq {L M : List Nat} (hs : ∀ x ∈ L, x ∈ M) {c : Nat} (h : occN n nm st M c ≤ occN n nm st L c) {p : Nat} (hp : p ∈ M) (hn : p < n) (hc : c ∈ namesN nm st p) : p ∈ L := by
  refine Classical.byContradiction fun hL => ?_
  have h1 : occN n nm st L c ≤ sumN n (upd (fun q => if q ∈ M then (namesN nm st q).count c else 0) p 0) := sumN_le fun v _ => by
    by_cases hv : v = p
    · subst hv; rw [upd_same, if_neg hL]; exact Nat.zero_le _
    · rw [upd_other _ _ hv]
      by_cases hvL : v ∈ L
      · rw [if_pos hvL, if_pos (hs v hvL)]; exact Nat.le_refl _
      · rw [if_neg hvL]; exact Nat.zero_le _
  have h2 := sumN_upd (n := n) (F := fun q => if q ∈ M then (namesN nm st q).count c else 0) (v := p) (x := 0) hn
  have h3 : 0 < (namesN nm st p).count c := List.count_pos_iff.2 hc
  simp only [hp, if_true] at h2
  unfold occN at h h1
  omega
theorem occ_more {L M : List Nat} (hs : ∀ x ∈ L, x ∈ M) {c : Nat} (h : occN n nm st L c ≠ occN n nm st M c) : ∃ p ∈ M, p ∉ L ∧ p < n ∧ c ∈ namesN nm st p := by
  refine Classical.byContradiction fun hn => h (sumN_congr fun v hv => ?_)
  by_cases hvL : v ∈ L
  · rw [if_pos hvL, if_pos (hs v hvL)]
  · rw [if_neg hvL]
    by_cases hvM : v ∈ M
    · rw [if_pos hvM]
      exact (List.count_eq_zero.2 fun hc => hn ⟨v, hvM, hvL, hv, hc⟩).symm
    · rw [if_neg hvM]
theorem occ_few {L : List Nat} {c : Nat} : occN n nm st L c ≤ sumN n (fun p => (namesN nm st p).length) := sumN_le fun v _ => by
  by_cases hv : v ∈ L
  · rw [if_pos hv]; exact List.count_le_length
  · rw [if_neg hv]; exact Nat.zero_le _
end
/-- Who was met, and at how many places each was met. -/
structure MI (nm : Nat → Nat) (n : Nat) (R : Nat → Prop) (met : List Nat) (F : Nat → Option Int) (oc : Nat → Nat) : Prop where
  nd : met.Nodup
  mem : ∀ v ∈ met, nm v = v ∧ v < n ∧ R v
  F : ∀ v, F v = if v ∈ met then some ((oc v : Nat) : Int) else none
  sub : ∀ v, 0 < oc v → v ∈ met
section
variable {n : Nat} {nm : Nat → Nat} {R : Nat → Prop} {met : List Nat} {F : Nat → Option Int} {oc : Nat → Nat}
theorem MI.nil (nm : Nat → Nat) (n : Nat) (R : Nat → Prop) : MI nm n R [] (fun _ => none) (fun _ => 0) := ⟨List.nodup_nil, fun v h => (by cases h), fun v => by simp, fun v h => by omega⟩
theorem MI.meet (h : MI nm n R met F oc) (hid : ∀ v, nm (nm v) = nm v) {x more : Nat} (hx : nm x < n) (hR : R (nm x)) :
    MI nm n R (meetL met F (nm x)) (meetF F (nm x) more) (fun v => oc v + if v = nm x then more else 0) ∧ met <+: meetL met F (nm x) ∧ nm x ∈ meetL met F (nm x) := by
  have hF := h.F (nm x)
  by_cases hm : nm x ∈ met
  · have hL : meetL met F (nm x) = met := by unfold meetL; rw [hF, if_pos hm]; rfl
    rw [hL]
    refine ⟨⟨h.nd, h.mem, fun v => ?_, fun v hv => ?_⟩, List.prefix_refl _, hm⟩
    · unfold meetF
      by_cases e : v = nm x
      · subst e; rw [upd_same, hF, if_pos hm, if_pos hm, if_pos rfl]; simp
      · rw [upd_other _ _ e, h.F, if_neg e, Nat.add_zero]
    · by_cases e : v = nm x
      · subst e; exact hm
      · rw [if_neg e] at hv; exact h.sub v (by omega)
  · have hL : meetL met F (nm x) = met ++ [nm x] := by unfold meetL; rw [hF, if_neg hm]; rfl
    rw [hL]
    have h0 : oc (nm x) = 0 := Nat.eq_zero_of_not_pos fun q => hm (h.sub _ q)
    refine ⟨⟨nodup_snoc h.nd hm, fun v hv => ?_, fun v => ?_, fun v hv => ?_⟩, List.prefix_append _ _, by simp⟩
    · rcases List.mem_append.1 hv with hv | hv
      · exact h.mem v hv
      · rw [List.mem_singleton] at hv; subst hv; exact ⟨hid x, hx, hR⟩
    · unfold meetF
      by_cases e : v = nm x
      · subst e; rw [upd_same, hF, if_neg hm, if_pos (by simp), h0, if_pos rfl]; simp
      · rw [upd_other _ _ e, h.F, if_neg e, Nat.add_zero]
        by_cases hv : v ∈ met
        · rw [if_pos hv, if_pos (by simp [hv])]
        · rw [if_neg hv, if_neg (by simp [hv, e])]
    · by_cases e : v = nm x
      · subst e; simp
      · rw [if_neg e] at hv; exact List.mem_append_left _ (h.sub v (by omega))
theorem MI.congr (h : MI nm n R met F oc) {oc' : Nat → Nat} (he : ∀ v, oc' v = oc v) : MI nm n R met F oc' := ⟨h.nd, h.mem, fun v => by rw [he]; exact h.F v, fun v hv => h.sub v (by rw [he] at hv; exact hv)⟩
/-- Many are. -/
theorem MI.meets (hid : ∀ v, nm (nm v) = nm v) (more : Nat) : ∀ (xs : List Nat) (met : List Nat) (F : Nat → Option Int) (oc : Nat → Nat), MI nm n R met F oc → (∀ x ∈ xs, nm x < n ∧ R (nm x)) →
    MI nm n R (xs.foldl (meetS nm more) (met, F)).1 (xs.foldl (meetS nm more) (met, F)).2 (fun v => oc v + more * (xs.map nm).count v) ∧ met <+: (xs.foldl (meetS nm more) (met, F)).1 ∧ ∀ x ∈ xs, nm x ∈ (xs.foldl (meetS nm more) (met, F)).1
  | [], met, F, oc, h, _ => ⟨h.congr fun v => by simp, List.prefix_refl _, fun x hx => by cases hx⟩
  | x :: xs, met, F, oc, h, hx => by
    obtain ⟨h1, h2, h3⟩ := h.meet hid (more := more) (hx x (by simp)).1 (hx x (by simp)).2
    obtain ⟨k1, k2, k3⟩ := MI.meets hid more xs _ _ _ h1 fun y hy => hx y (by simp [hy])
    rw [List.foldl_cons]
    refine ⟨k1.congr fun v => ?_, h2.trans k2, fun y hy => ?_⟩
    · rw [List.map_cons, List.count_cons]
      by_cases e : nm x = v
      · subst e; simp only [beq_self_eq_true, if_true, Nat.mul_add]; omega
      · have e' : ¬ v = nm x := fun q => e q.symm
        have e2 : (nm x == v) = false := beq_eq_false_iff_ne.2 e
        simp [e', e2]
    · rcases List.mem_cons.1 hy with rfl | hy
      · exact k2.subset h3
      · exact k3 y hy
/-- At each step. -/
theorem MI.steps (hid : ∀ v, nm (nm v) = nm v) (more : Nat) : ∀ (xs : List Nat) (met : List Nat) (F : Nat → Option Int) (oc : Nat → Nat), MI nm n R met F oc → (∀ x ∈ xs, nm x < n ∧ R (nm x)) → ∀ (ok : List Nat × (Nat → Option Int) → Nat → Prop),
    (∀ met F oc' x, MI nm n R met F oc' → x ∈ xs → (∀ v, oc' v ≤ oc v + more * (xs.map nm).count v) → ok (met, F) x) → ∀ ys zs, xs = ys ++ zs → ∀ x zs', zs = x :: zs' → ok (ys.foldl (meetS nm more) (met, F)) x := by
  intro xs met F oc h hx ok hok ys zs e x zs' e2
  subst e2
  obtain ⟨k1, _, _⟩ := MI.meets hid more ys met F oc h fun y hy => hx y (by rw [e]; simp [hy])
  refine hok _ _ _ x k1 (by rw [e]; simp) fun v => ?_
  rw [e, List.map_append, List.count_append, Nat.mul_add]
  omega
end
end Types
end Go.Proofs.YtjchplgapaeagaaDoor
namespace Go.Proofs.YtjchplgapaeagaaDoor
open Go.RowKit
set_option linter.unusedVariables false
set_option linter.unusedSimpArgs false
namespace Types

set_option maxRecDepth 100000 in
set_option maxHeartbeats 6400000 in
theorem eachL {α : Type} (Q : Nat → Bool) (w0 : World) (k1 k2 k3 : Value) (Inv : α → World → Prop) (step : α → Int → α) (ok : α → Int → Prop)
    (hC : ∀ a v W, Inv a W → ok a v → Calls Tryd.prog 78 #[.int .i64 v, k1, k2, k3] W fun en W' => en = .returned (.tuple #[]) ∧ Inv (step a v) W' ∧ Kp Q W W')
    (hI : ∀ a W O, Inv a W → Inv a (W.alloc O)) (hQ : ∀ b, w0.heap.size ≤ b → Q b = true) :
    ∀ (m : Nat) (ts : List Ty) (p : Option Addr) (l d : Nat) (a : α) (w : World), wts ts ≤ m → ts.length = l → l ≤ maxLen → Kids (veil Q w) p ts → w0.heap.size ≤ w.heap.size → Inv a w → EOk step ok a (evK ts) →
    Calls Tryd.prog 47 #[.func (.func 78) #[] #[k1, k2, k3], .slice p l d] w fun en w' => en = .returned (.tuple #[]) ∧ Inv ((evK ts).foldl step a) w' ∧ Kp Q w w' := by
  intro m
  induction m using Nat.strongRecOn with
  | _ m ih =>
    intro ts p l d a w hm hl hlm hk hw hi hok
    unfold maxLen at hlm
    have HM := Lib.hid hm; have HL := Lib.hid hl; have HKI := Lib.hid hk; have HW := Lib.hid hw; have HIN := Lib.hid hi; have HOK := Lib.hid hok; have IH := Lib.hid ih; have HC := Lib.hid hC; have HI := Lib.hid hI; have HQ := Lib.hid hQ
    clear hm hl hk hw hi hok ih hC hI hQ
    go_enter Tryd.func47, Tryd.ntmps47
    go_wp2_with (fail)
    go_loopw [8] (fun i wr => ∃ (j : Nat) (b : α), j ≤ l ∧ i = .int .i64 j ∧ Hid (Inv b wr) ∧ Hid ((evK ts).foldl step a = (evK (ts.drop j)).foldl step b) ∧ Hid (EOk step ok b (evK (ts.drop j))) ∧ Hid (Kp Q w wr)) (fun i _ => l - (intOf i).toNat)
    case atStart => exact ⟨0, a, Nat.zero_le _, rfl, HIN, Lib.hid (by rw [List.drop_zero]), Lib.hid (by rw [List.drop_zero]; exact HOK.out), Lib.hid (Kp.refl _ _)⟩
    case round =>
      obtain ⟨j, b, hj, rfl, HB, HF, HO, HK⟩ := hrel
      by_cases hlt : j < l
      · have hjk : j < ts.length := by rw [HL.out]; exact hlt
        have hkr := HK.out.kids HKI.out
        obtain ⟨bb, o, q, c', rfl, hkid, e0, e1, e2⟩ := hkr.get j hjk
        have c0 := (veil_seen e0).2
        have c1 := (veil_seen e1).2
        have c2 := (veil_seen e2).2
        have hwm : wts (tget ts j).ks < wts ts := by have h1 := wts_get hjk; have h2 := wt_ks (tget ts j); omega
        have hnew : Q wr.heap.size = true := HQ.out _ (by have := HW.out; have := HK.out.size; omega)
        have hev := evK_drop ts j hjk
        have HJK := Lib.hid hjk; have HKID := Lib.hid hkid; have HWM := Lib.hid hwm; have HN := Lib.hid hnew; have HEV := Lib.hid hev
        have HB1 := Lib.hid (HI.out b wr (.cells #[.int .u8 (tget ts j).h.k, .int .i64 (tget ts j).h.v, .slice q (tget ts j).ks.length c'] 25) HB.out)
        have HX := Lib.hid (heap_alloc_new wr (.cells #[.int .u8 (tget ts j).h.k, .int .i64 (tget ts j).h.v, .slice q (tget ts j).ks.length c'] 25))
        clear hjk hkr hkid hwm hnew hev e0 e1 e2 HB
        by_cases h5 : (tget ts j).h.k = 5
        · have h5' : ((tget ts j).h.k == 5) = true := by rw [h5]; rfl
          have hevt := HEV.out
          rw [evT_eq, if_pos h5] at hevt
          have ho := HO.out
          rw [hevt] at ho
          have HF2 := Lib.hid (HF.out.trans (by rw [hevt]; rfl : _ = (evK (tget ts j).ks ++ evK (ts.drop (j + 1))).foldl step (step b (tget ts j).h.v)))
          have HO1 := Lib.hid ho.1; have HO2 := Lib.hid (show EOk step ok (step b (tget ts j).h.v) (evK (tget ts j).ks ++ evK (ts.drop (j + 1))) from ho.2)
          have hcc := HC.out b (tget ts j).h.v _ HB1.out HO1.out
          have HCC := Lib.hid hcc
          clear hevt ho h5 hcc HF HO
          go_wp2_with (fail)
          refine HCC.out.mono ?_
          rintro en w1 ⟨rfl, hi1, hk1⟩
          have hx1 := (hk1.block _ (lt_of_block HX.out) HN.out).trans HX.out
          obtain ⟨⟨g0, g1, g2⟩, -, gl⟩ := c3 hx1
          have HK1 := Lib.hid ((HK.out.alloc _).trans hk1)
          have HI1 := Lib.hid hi1
          have hsp := eok_append HO2.out
          have HS1 := Lib.hid hsp.1; have HS2 := Lib.hid hsp.2
          have hih := IH.out (wts (tget ts j).ks) (by have := HWM.out; have := HM.out; omega) (tget ts j).ks q _ c' _ w1 (Nat.le_refl _) rfl (Nat.le_trans HKID.out.cap.1 HKID.out.cap.2) (((Kp.of_below (al_new _)).trans hk1).kids HKID.out.kids) (by have := HW.out; have := HK1.out.size; omega) HI1.out HS1.out
          have HIH := Lib.hid hih
          clear hx1 hi1 hk1 hsp hih c0 c1 c2 h5'
          go_wp2_with (fail)
          refine HIH.out.mono ?_
          rintro en w2 ⟨rfl, hi2, hk2⟩
          have HK2 := Lib.hid (HK1.out.trans hk2); have HI2 := Lib.hid hi2
          clear hi2 hk2 g0 g1 g2 gl
          go_wp2_with (fail)
          go_roundw
          case rel => exact ⟨j + 1, _, by omega, by go_num, HI2, Lib.hid (by rw [HF2.out, List.foldl_append]), HS2, HK2⟩
          case measure => simp [intOf]; omega
        · have h5' : ((tget ts j).h.k == 5) = false := beq_eq_false_iff_ne.2 h5
          have hevt := HEV.out
          rw [evT_eq, if_neg h5, List.nil_append] at hevt
          have ho := HO.out
          rw [hevt] at ho
          have HF2 := Lib.hid (HF.out.trans (by rw [hevt] : _ = (evK (tget ts j).ks ++ evK (ts.drop (j + 1))).foldl step b))
          have hsp := eok_append ho
          have HS1 := Lib.hid hsp.1; have HS2 := Lib.hid hsp.2
          have hk1 := HK.out.alloc (.cells #[.int .u8 (tget ts j).h.k, .int .i64 (tget ts j).h.v, .slice q (tget ts j).ks.length c'] 25)
          have HK1 := Lib.hid hk1
          have hih := IH.out (wts (tget ts j).ks) (by have := HWM.out; have := HM.out; omega) (tget ts j).ks q _ c' b (wr.alloc (.cells #[.int .u8 (tget ts j).h.k, .int .i64 (tget ts j).h.v, .slice q (tget ts j).ks.length c'] 25)) (Nat.le_refl _) rfl (Nat.le_trans HKID.out.cap.1 HKID.out.cap.2) ((Kp.of_below (al_new _)).kids HKID.out.kids) (by have := HW.out; have := HK1.out.size; omega) HB1.out HS1.out
          have HIH := Lib.hid hih
          clear hevt ho h5 hsp hk1 hih HF HO
          go_wp2_with (fail)
          refine HIH.out.mono ?_
          rintro en w2 ⟨rfl, hi2, hk2⟩
          have HK2 := Lib.hid (HK1.out.trans hk2); have HI2 := Lib.hid hi2
          clear hi2 hk2 c0 c1 c2
          go_wp2_with (fail)
          go_roundw
          case rel => exact ⟨j + 1, _, by omega, by go_num, HI2, Lib.hid (by rw [HF2.out, List.foldl_append]), HS2, HK2⟩
          case measure => simp [intOf]; omega
      · obtain rfl : j = l := by omega
        have hr := HF.out
        rw [List.drop_eq_nil_of_le (by rw [HL.out]; exact Nat.le_refl _), evK_nil] at hr
        have HR := Lib.hid (show Inv ((evK ts).foldl step a) wr by rw [hr]; exact HB.out)
        clear hr
        go_wp2_with (fail)
        exact bodyPost_end (results_none rfl _ _ _) rfl ⟨rfl, HR.out, HK.out⟩
end Types
end Go.Proofs.YtjchplgapaeagaaDoor
namespace Go.Proofs.YtjchplgapaeagaaDoor
open Go.RowKit
set_option linter.unusedVariables false
set_option linter.unusedSimpArgs false
namespace Types

/-- What left$1 relies on. -/
structure LfV (P : Nat → Bool) (k : Bk) (u : Up) (n : Nat) (g : Nat → Bool) (nm : Nat → Nat) (st : Nat → Option Ty) (N1 N2 N3 M : Nat) (F : Nat → Option Value) (a : Int) (W : World) : Prop where
  x1 : W.heap[N1]? = some (.cells #[.int .i64 a] 3 (0, 0))
  x2 : W.heap[N2]? = some (.cells #[.map (some M)] 90 (0, 0))
  x3 : W.heap[N3]? = some (.cells #[.pointer (some ⟨k.b, 0, none⟩)] 28 (0, 0))
  map : MapAt W M F
  book : ∃ e, TBk P W k u n e g ∧ Rep (cmb u e) nm st
  fit : -9223372036854775808 ≤ a ∧ a ≤ 9223372036854775807
theorem LfV.alloc {P : Nat → Bool} {k : Bk} {u : Up} {n : Nat} {g : Nat → Bool} {nm : Nat → Nat} {st : Nat → Option Ty} {N1 N2 N3 M : Nat} {F : Nat → Option Value} {a : Int} {W : World} (h : LfV P k u n g nm st N1 N2 N3 M F a W) (O : Obj) : LfV P k u n g nm st N1 N2 N3 M F a (W.alloc O) := by
  obtain ⟨e, h2, h3⟩ := h.book
  exact ⟨((al_new _).block _ (lt_of_block h.x1)).trans h.x1, ((al_new _).block _ (lt_of_block h.x2)).trans h.x2, ((al_new _).block _ (lt_of_block h.x3)).trans h.x3, h.map.of_block ((al_new _).block _ h.map.lt), ⟨e, h2.below (al_new _), h3⟩, h.fit⟩
/-- What a variable takes away. -/
def leftS (nm : Nat → Nat) (sz : Nat → Int) (a : Int) (v : Int) : Int := if 0 ≤ a then IntKind.i64.wrap (a - IntKind.i64.wrap (sz (nm v.toNat) - 1)) else a
theorem wrap_in (x : Int) : -9223372036854775808 ≤ IntKind.i64.wrap x ∧ IntKind.i64.wrap x ≤ 9223372036854775807 := by rw [IntKind.wrap_i64]; omega
/-- What a map of ints has at a name: nothing counts as 0. -/
def HasZ (F : Nat → Option Value) (sz : Nat → Int) (x : Nat) : Prop := F x = some (.int .i64 (sz x)) ∨ (F x = none ∧ sz x = 0)
set_option maxRecDepth 100000 in
set_option maxHeartbeats 6400000 in
theorem left1_walk (P : Nat → Bool) (k : Bk) (u : Up) (n : Nat) (g : Nat → Bool) (nm : Nat → Nat) (st : Nat → Option Ty) (N1 N2 N3 M : Nat) (F : Nat → Option Value) (sz : Nat → Int) (a : Int) (v : Nat) (W : World) (hI : LfV P k u n g nm st N1 N2 N3 M F a W) (hv : v < n)
    (hF : 0 ≤ a → HasZ F sz (nm v)) (hN : N1 ≠ N2 ∧ N1 ≠ N3 ∧ N1 ≠ M ∧ N1 ≠ k.b ∧ N1 ≠ k.s ∧ N1 ≠ k.i) (hNs : N2 ≠ k.s ∧ N3 ≠ k.s ∧ M ≠ k.s) (hP : P N1 = false) (hu : ∀ x, u = some x → x.1.b ≠ N1 ∧ x.1.s ≠ N1) :
    Calls Tryd.prog 78 #[.int .i64 (v : Int), .pointer (some ⟨N1, 0, none⟩), .pointer (some ⟨N2, 0, none⟩), .pointer (some ⟨N3, 0, none⟩)] W fun en W' => en = .returned (.tuple #[]) ∧ LfV P k u n g nm st N1 N2 N3 M F (leftS nm sz a v) W' ∧ Kp (fun b => decide (b ≠ k.s ∧ b ≠ N1)) W W' := by
  obtain ⟨e, hT, hR⟩ := hI.book
  have hx1 := hI.x1
  obtain ⟨y0, yf, yl⟩ := c1 hx1
  by_cases ha : 0 ≤ a
  · have hq : decide (a ≥ 0) = true := decide_eq_true ha
    obtain ⟨z1, hz1⟩ : ∃ z1, IntKind.i64.wrap (sz (nm v) - 1) = z1 := ⟨_, rfl⟩
    obtain ⟨z2, hz2⟩ : ∃ z2, IntKind.i64.wrap (a - z1) = z2 := ⟨_, rfl⟩
    have hr2 := wrap_in (a - z1)
    rw [hz2] at hr2
    have hS : leftS nm sz a v = z2 := by unfold leftS; rw [if_pos ha]; show IntKind.i64.wrap (a - IntKind.i64.wrap (sz (nm v) - 1)) = z2; rw [hz1, hz2]
    have f1 := hF ha
    have hnw := name_walk P k u n e g nm st v W.drew (hT.below ⟨rfl, rfl, rfl, Nat.le_refl _, fun _ _ => rfl⟩) hR hv
    have HI := Lib.hid hI; have HT := Lib.hid hT; have HV := Lib.hid (And.intro hv (And.intro (hR.le v) hT.me.few)); have HNW := Lib.hid hnw; have HF := Lib.hid f1; have HZ1 := Lib.hid hz1; have HZ2 := Lib.hid hz2; have HR2 := Lib.hid hr2; have HN := Lib.hid hN; have HNS := Lib.hid hNs; have HP := Lib.hid hP; have HU := Lib.hid hu; have HSV := Lib.hid hS; have HA := Lib.hid (And.intro ha hI.fit)
    clear hI hT hR hnw hv hF hN hNs hP hu hx1 f1 hz1 hz2 hr2 hS ha
    go_enter Tryd.func78, Tryd.ntmps78
    go_upto_region 1 with (fail)
    clear y0 yf yl hq
    refine wp_region_held_drew (S := fun V => ∀ b, b < W.heap.size → b ≠ k.s → b ≠ N1 → V.heap[b]? = W.heap[b]?) (by kernel_rfl) (fun _ _ _ _ => rfl) (fun hHeld => ?_)
    refine wpAnyH_take (i := 1) (v := .map (some M)) rfl (by kernel_rfl) (by kernel_rfl) (by kernel_rfl) (fun _ _ _ h => h) (Or.inl ⟨by rfl, ?_⟩) (by assumption) ?_
    · intro w' hSw
      obtain ⟨d0, -, dl⟩ := c1 ((hSw _ (lt_of_block HI.out.x2) (HNS.out.1) (fun e => HN.out.1 e.symm)).trans HI.out.x2)
      first | (go_simp; done) | rfl
    try simp only [Act.put, List.getElem_toArray, List.getElem_cons_succ, List.getElem_cons_zero, List.setIfInBounds_toArray, List.set_cons_zero, List.set_cons_succ]
    refine wpAnyH_take (i := 2) (v := .pointer (some ⟨k.b, 0, none⟩)) rfl (by kernel_rfl) (by kernel_rfl) (by kernel_rfl) (fun _ _ _ h => h) (Or.inl ⟨by rfl, ?_⟩) (by assumption) ?_
    · intro w' hSw
      obtain ⟨d0, -, dl⟩ := c1 ((hSw _ (lt_of_block HI.out.x3) (HNS.out.2.1) (fun e => HN.out.2.1 e.symm)).trans HI.out.x3)
      first | (go_simp; done) | rfl
    try simp only [Act.put, List.getElem_toArray, List.getElem_cons_succ, List.getElem_cons_zero, List.setIfInBounds_toArray, List.set_cons_zero, List.set_cons_succ]
    refine wpAnyH_take (i := 3) (v := .int .i64 (v : Int)) rfl (by kernel_rfl) (by kernel_rfl) (by kernel_rfl) (fun _ _ _ h => h) (Or.inl ⟨by rfl, ?_⟩) (by assumption) ?_
    · intro w' hSw
      first | (go_simp; done) | rfl
    try simp only [Act.put, List.getElem_toArray, List.getElem_cons_succ, List.getElem_cons_zero, List.setIfInBounds_toArray, List.set_cons_zero, List.set_cons_succ]
    refine wpAnyH_ready (rs := [0, 4]) (by kernel_rfl) (by simp) ?_
    refine AllReadyH.cons rfl (fun K hK => ?_) (AllReadyH.cons rfl (fun K hK => ?_) AllReadyH.nil)
    · have HK2 := Lib.hid hK
      clear hK
      try rw [if_pos (by rfl)]
      obtain ⟨y0, yf, yl⟩ := c1 (show W.drew.heap[N1]? = some (.cells #[.int .i64 a] 3 (0, 0)) from HI.out.x1)
      go_simp
      refine HK2.out _ _ (fun _ _ _ _ => rfl) (fun hHeld => ?_)
      clear y0 yf yl
      clear HK2
      try simp only [Act.put, List.getElem_toArray, List.getElem_cons_succ, List.getElem_cons_zero, List.setIfInBounds_toArray, List.set_cons_zero, List.set_cons_succ]
      clear K
      refine wpAnyH_ready (rs := [4]) (by kernel_rfl) (by simp) ?_
      refine AllReadyH.cons rfl (fun K hK => ?_) AllReadyH.nil
      have HK2 := Lib.hid hK
      clear hK
      try rw [if_pos (by rfl)]
      go_simp
      refine HNW.out.mono ?_
      rintro en w1 ⟨rfl, e1, hT1, hR1, hk1⟩
      have hoff1 : ∀ b, b < W.heap.size → b ≠ k.s → w1.heap[b]? = W.heap[b]? := fun b hb h1 => hk1.block b hb (ne_true h1)
      have hM1 := HI.out.map.of_block (hoff1 _ HI.out.map.lt HNS.out.2.2)
      have X11 := Lib.hid ((hoff1 _ (lt_of_block HI.out.x1) HN.out.2.2.2.2.1).trans HI.out.x1); have X21 := Lib.hid ((hoff1 _ (lt_of_block HI.out.x2) HNS.out.1).trans HI.out.x2); have X31 := Lib.hid ((hoff1 _ (lt_of_block HI.out.x3) HNS.out.2.1).trans HI.out.x3)
      have HT1 := Lib.hid hT1; have HR1 := Lib.hid hR1; have HK1 := Lib.hid (show Kp (fun b => decide (b ≠ k.s ∧ b ≠ N1)) W w1 from ⟨hk1.os, hk1.tape, hk1.output, hk1.size, fun b hb hp => hk1.block b hb (ne_true (of_decide_eq_true hp).1)⟩); have HO1 := Lib.hid hoff1; have HM1 := Lib.hid hM1
      clear hT1 hR1 hk1 hoff1 hM1 HNW
      refine HK2.out _ _ (fun b hb h _ => HO1.out b hb h) (fun hHeld => ?_)
      clear HK2
      try simp only [Act.put, List.getElem_toArray, List.getElem_cons_succ, List.getElem_cons_zero, List.setIfInBounds_toArray, List.set_cons_zero, List.set_cons_succ]
      clear K
      refine wpAnyH_take (i := 5) (v := .int .i64 (sz (nm v))) rfl (by kernel_rfl) (by kernel_rfl) (by kernel_rfl) (fun _ _ _ h => h) (Or.inl ⟨by rfl, ?_⟩) (by assumption) ?_
      · intro w' hSw
        have hlk := (HI.out.map.of_block (hSw _ HI.out.map.lt HNS.out.2.2 (fun e => HN.out.2.2.1 e.symm))).look Tryd.underlying90 (zeroInt _) (i := nm v) (keyOk_of (by have := HV.out; omega))
        have hlk' : (Instr.lookup 90 (.map (some M)) (.int .i64 ((nm v : Nat) : Int)) false).run Tryd.prog w' = .ok (.int .i64 (sz (nm v))) w' := by
          rcases HF.out with hf | ⟨hf, h0⟩
          · rw [hf] at hlk; exact hlk
          · rw [hf] at hlk; rw [h0]; exact hlk
        clear hlk
        first | (go_simp; done) | rfl
      try simp only [Act.put, List.getElem_toArray, List.getElem_cons_succ, List.getElem_cons_zero, List.setIfInBounds_toArray, List.set_cons_zero, List.set_cons_succ]
      refine wpAnyH_take (i := 6) (v := .int .i64 z1) rfl (by kernel_rfl) (by kernel_rfl) (by kernel_rfl) (fun _ _ _ h => h) (Or.inl ⟨by rfl, ?_⟩) (by assumption) ?_
      · intro w' hSw
        have e1 := HZ1.out
        first | (go_simp; done) | rfl
      try simp only [Act.put, List.getElem_toArray, List.getElem_cons_succ, List.getElem_cons_zero, List.setIfInBounds_toArray, List.set_cons_zero, List.set_cons_succ]
      refine wpAnyH_take (i := 7) (v := .int .i64 z2) rfl (by kernel_rfl) (by kernel_rfl) (by kernel_rfl) (fun _ _ _ h => h) (Or.inl ⟨by rfl, ?_⟩) (by assumption) ?_
      · intro w' hSw
        have e1 := HZ2.out
        first | (go_simp; done) | rfl
      try simp only [Act.put, List.getElem_toArray, List.getElem_cons_succ, List.getElem_cons_zero, List.setIfInBounds_toArray, List.set_cons_zero, List.set_cons_succ]
      refine wpAnyH_ready (rs := [8]) (by kernel_rfl) (by simp) ?_
      refine AllReadyH.cons rfl (fun K hK => ?_) AllReadyH.nil
      have HK2 := Lib.hid hK
      clear hK
      try rw [if_pos (by rfl)]
      obtain ⟨y0, yf, yl⟩ := c1 X11.out
      go_simp
      have hoff2 : ∀ b, b ≠ N1 → (w1.setCell ⟨N1, 0, none⟩ (.int .i64 z2)).heap[b]? = w1.heap[b]? := fun b hb => Below.heap_setCell _ _ _ _ hb
      have hkp : Kp (fun b => decide (b ≠ N1)) w1 (w1.setCell ⟨N1, 0, none⟩ (.int .i64 z2)) := (Kp.refl _ _).set (by simp) 0 _
      have hx1 : (w1.setCell ⟨N1, 0, none⟩ (.int .i64 z2)).heap[N1]? = some (.cells #[.int .i64 z2] 3 (0, 0)) := by
        have := X11.out
        simp [World.setCell, Array.getElem?_modify, this]
      have HFIN := Lib.hid (show LfV P k u n g nm st N1 N2 N3 M F (leftS nm sz a v) (w1.setCell ⟨N1, 0, none⟩ (.int .i64 z2)) ∧ Kp (fun b => decide (b ≠ k.s ∧ b ≠ N1)) W (w1.setCell ⟨N1, 0, none⟩ (.int .i64 z2)) from by
        rw [HSV.out]
        refine ⟨⟨hx1, (hoff2 _ (fun e => HN.out.1 e.symm)).trans X21.out, (hoff2 _ (fun e => HN.out.2.1 e.symm)).trans X31.out, HM1.out.of_block (hoff2 _ (fun e => HN.out.2.2.1 e.symm)), ⟨e1, HT1.out.off hkp HP.out ⟨fun e => HN.out.2.2.2.1 e.symm, fun e => HN.out.2.2.2.2.1 e.symm, fun e => HN.out.2.2.2.2.2 e.symm⟩ HU.out, HR1.out⟩, HR2.out⟩, HK1.out.trans (hkp.mono fun b hb => decide_eq_true (of_decide_eq_true hb).2)⟩)
      refine HK2.out _ _ (fun b hb h h2 => (hoff2 b h2).trans (HO1.out b hb h)) (fun hHeld => ?_)
      clear hoff2 hkp hx1 y0 yf yl
      clear HK2
      try simp only [Act.put, List.getElem_toArray, List.getElem_cons_succ, List.getElem_cons_zero, List.setIfInBounds_toArray, List.set_cons_zero, List.set_cons_succ]
      clear K
      refine wpAnyH_done (by kernel_rfl) ?_ _
      clear hHeld
      go_wp2_with (fail)
      exact bodyPost_end (results_none rfl _ _ _) rfl ⟨rfl, HFIN.out⟩
    · have HK2 := Lib.hid hK
      clear hK
      try rw [if_pos (by rfl)]
      go_simp
      refine HNW.out.mono ?_
      rintro en w1 ⟨rfl, e1, hT1, hR1, hk1⟩
      have hoff1 : ∀ b, b < W.heap.size → b ≠ k.s → w1.heap[b]? = W.heap[b]? := fun b hb h1 => hk1.block b hb (ne_true h1)
      have hM1 := HI.out.map.of_block (hoff1 _ HI.out.map.lt HNS.out.2.2)
      have X11 := Lib.hid ((hoff1 _ (lt_of_block HI.out.x1) HN.out.2.2.2.2.1).trans HI.out.x1); have X21 := Lib.hid ((hoff1 _ (lt_of_block HI.out.x2) HNS.out.1).trans HI.out.x2); have X31 := Lib.hid ((hoff1 _ (lt_of_block HI.out.x3) HNS.out.2.1).trans HI.out.x3)
      have HT1 := Lib.hid hT1; have HR1 := Lib.hid hR1; have HK1 := Lib.hid (show Kp (fun b => decide (b ≠ k.s ∧ b ≠ N1)) W w1 from ⟨hk1.os, hk1.tape, hk1.output, hk1.size, fun b hb hp => hk1.block b hb (ne_true (of_decide_eq_true hp).1)⟩); have HO1 := Lib.hid hoff1; have HM1 := Lib.hid hM1
      clear hT1 hR1 hk1 hoff1 hM1 HNW
      refine HK2.out _ _ (fun b hb h _ => HO1.out b hb h) (fun hHeld => ?_)
      clear HK2
      try simp only [Act.put, List.getElem_toArray, List.getElem_cons_succ, List.getElem_cons_zero, List.setIfInBounds_toArray, List.set_cons_zero, List.set_cons_succ]
      clear K
      refine wpAnyH_take (i := 5) (v := .int .i64 (sz (nm v))) rfl (by kernel_rfl) (by kernel_rfl) (by kernel_rfl) (fun _ _ _ h => h) (Or.inl ⟨by rfl, ?_⟩) (by assumption) ?_
      · intro w' hSw
        have hlk := (HI.out.map.of_block (hSw _ HI.out.map.lt HNS.out.2.2 (fun e => HN.out.2.2.1 e.symm))).look Tryd.underlying90 (zeroInt _) (i := nm v) (keyOk_of (by have := HV.out; omega))
        have hlk' : (Instr.lookup 90 (.map (some M)) (.int .i64 ((nm v : Nat) : Int)) false).run Tryd.prog w' = .ok (.int .i64 (sz (nm v))) w' := by
          rcases HF.out with hf | ⟨hf, h0⟩
          · rw [hf] at hlk; exact hlk
          · rw [hf] at hlk; rw [h0]; exact hlk
        clear hlk
        first | (go_simp; done) | rfl
      try simp only [Act.put, List.getElem_toArray, List.getElem_cons_succ, List.getElem_cons_zero, List.setIfInBounds_toArray, List.set_cons_zero, List.set_cons_succ]
      refine wpAnyH_take (i := 6) (v := .int .i64 z1) rfl (by kernel_rfl) (by kernel_rfl) (by kernel_rfl) (fun _ _ _ h => h) (Or.inl ⟨by rfl, ?_⟩) (by assumption) ?_
      · intro w' hSw
        have e1 := HZ1.out
        first | (go_simp; done) | rfl
      try simp only [Act.put, List.getElem_toArray, List.getElem_cons_succ, List.getElem_cons_zero, List.setIfInBounds_toArray, List.set_cons_zero, List.set_cons_succ]
      refine wpAnyH_ready (rs := [0]) (by kernel_rfl) (by simp) ?_
      refine AllReadyH.cons rfl (fun K hK => ?_) AllReadyH.nil
      have HK2 := Lib.hid hK
      clear hK
      try rw [if_pos (by rfl)]
      obtain ⟨y0, yf, yl⟩ := c1 X11.out
      go_simp
      refine HK2.out _ _ (fun b hb h _ => HO1.out b hb h) (fun hHeld => ?_)
      clear y0 yf yl
      clear HK2
      try simp only [Act.put, List.getElem_toArray, List.getElem_cons_succ, List.getElem_cons_zero, List.setIfInBounds_toArray, List.set_cons_zero, List.set_cons_succ]
      clear K
      refine wpAnyH_take (i := 7) (v := .int .i64 z2) rfl (by kernel_rfl) (by kernel_rfl) (by kernel_rfl) (fun _ _ _ h => h) (Or.inl ⟨by rfl, ?_⟩) (by assumption) ?_
      · intro w' hSw
        have e1 := HZ2.out
        first | (go_simp; done) | rfl
      try simp only [Act.put, List.getElem_toArray, List.getElem_cons_succ, List.getElem_cons_zero, List.setIfInBounds_toArray, List.set_cons_zero, List.set_cons_succ]
      refine wpAnyH_ready (rs := [8]) (by kernel_rfl) (by simp) ?_
      refine AllReadyH.cons rfl (fun K hK => ?_) AllReadyH.nil
      have HK2 := Lib.hid hK
      clear hK
      try rw [if_pos (by rfl)]
      obtain ⟨y0, yf, yl⟩ := c1 X11.out
      go_simp
      have hoff2 : ∀ b, b ≠ N1 → (w1.setCell ⟨N1, 0, none⟩ (.int .i64 z2)).heap[b]? = w1.heap[b]? := fun b hb => Below.heap_setCell _ _ _ _ hb
      have hkp : Kp (fun b => decide (b ≠ N1)) w1 (w1.setCell ⟨N1, 0, none⟩ (.int .i64 z2)) := (Kp.refl _ _).set (by simp) 0 _
      have hx1 : (w1.setCell ⟨N1, 0, none⟩ (.int .i64 z2)).heap[N1]? = some (.cells #[.int .i64 z2] 3 (0, 0)) := by
        have := X11.out
        simp [World.setCell, Array.getElem?_modify, this]
      have HFIN := Lib.hid (show LfV P k u n g nm st N1 N2 N3 M F (leftS nm sz a v) (w1.setCell ⟨N1, 0, none⟩ (.int .i64 z2)) ∧ Kp (fun b => decide (b ≠ k.s ∧ b ≠ N1)) W (w1.setCell ⟨N1, 0, none⟩ (.int .i64 z2)) from by
        rw [HSV.out]
        refine ⟨⟨hx1, (hoff2 _ (fun e => HN.out.1 e.symm)).trans X21.out, (hoff2 _ (fun e => HN.out.2.1 e.symm)).trans X31.out, HM1.out.of_block (hoff2 _ (fun e => HN.out.2.2.1 e.symm)), ⟨e1, HT1.out.off hkp HP.out ⟨fun e => HN.out.2.2.2.1 e.symm, fun e => HN.out.2.2.2.2.1 e.symm, fun e => HN.out.2.2.2.2.2 e.symm⟩ HU.out, HR1.out⟩, HR2.out⟩, HK1.out.trans (hkp.mono fun b hb => decide_eq_true (of_decide_eq_true hb).2)⟩)
      refine HK2.out _ _ (fun b hb h h2 => (hoff2 b h2).trans (HO1.out b hb h)) (fun hHeld => ?_)
      clear hoff2 hkp hx1 y0 yf yl
      clear HK2
      try simp only [Act.put, List.getElem_toArray, List.getElem_cons_succ, List.getElem_cons_zero, List.setIfInBounds_toArray, List.set_cons_zero, List.set_cons_succ]
      clear K
      refine wpAnyH_done (by kernel_rfl) ?_ _
      clear hHeld
      go_wp2_with (fail)
      exact bodyPost_end (results_none rfl _ _ _) rfl ⟨rfl, HFIN.out⟩
  · have hq : decide (a ≥ 0) = false := decide_eq_false ha
    have hS : leftS nm sz a v = a := by unfold leftS; rw [if_neg ha]
    rw [hS]
    have HI := Lib.hid hI
    clear hI hS hT hR hx1 hF hN hNs hP hu
    go_enter Tryd.func78, Tryd.ntmps78
    go_wp2_with (fail)
    exact bodyPost_end (results_none rfl _ _ _) rfl ⟨rfl, HI.out, Kp.refl _ _⟩
end Types
end Go.Proofs.YtjchplgapaeagaaDoor
