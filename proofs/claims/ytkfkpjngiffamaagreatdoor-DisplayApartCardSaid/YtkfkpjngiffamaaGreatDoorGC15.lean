import Derived.Test.YtkfkpjngiffamaaGreatDoorGC13
import Derived.Test.YtkfkpjngiffamaaGreatDoorGC14
import Derived.Test.YtkfkpjngiffamaaGreatDoorGC09
import Derived.Test.YtkfkpjngiffamaaGreatDoorGC12
import Derived.Test.YtkfkpjngiffamaaGreatDoorGC11
import Derived.Test.YtkfkpjngiffamaaGreatDoorGC07
import Derived.Deep.QuietTactic
import Derived.BigQuiet
import Derived.Deep.RegionLaw
import Derived.Deep.AppendLies
import Derived.Deep.RegionHeld3
namespace Go.Proofs.YtkfkpjngiffamaaGreatDoor
open Go.RowKit
set_option linter.unusedVariables false
namespace Term

def MayI (w0 : World) (N : Nat) (r : Nat) (s : Int) (W : World) : Prop := Reads w0 W ∧ (∀ a v, w0.cell? a = some v → a.block ≠ N) ∧ W.heap[N]? = some (.cells #[.int .i64 s] 3 (0, 0)) ∧ 0 ≤ s ∧ s ≤ 4000
theorem MayI.goes {w0 : World} {N : Nat} : Goes w0 N (MayI w0 N) where
 base := fun r s W k => k.1
 has := fun r s W k => lt_of_block k.2.2.1
 keep := fun r s W W' k hb => ⟨k.1.trans (Reads.of_below hb), k.2.1, (hb.block N (lt_of_block k.2.2.1)).trans k.2.2.1, k.2.2.2⟩
 less := fun r r' s W k hr => k
def mayB (s : Int) (t : Tm) : Bool := decide (0 ≤ s - 1) && nodeB t.h t.ks.length
def mayS (s : Int) (_ : Tm) : Int := s - 1
theorem fo_may : ∀ m : Nat, (∀ (t : Tm) (s : Int), wt t ≤ m → 0 ≤ s → (foT mayB mayS t s).1 = (decide ((wt t : Int) ≤ s) && okT t) ∧ ((foT mayB mayS t s).1 = true → (foT mayB mayS t s).2 = s - wt t)) ∧
  (∀ (ts : List Tm) (s : Int), wts ts ≤ m → 0 ≤ s → (foK mayB mayS ts s).1 = (decide ((wts ts : Int) ≤ s) && okK ts) ∧ ((foK mayB mayS ts s).1 = true → (foK mayB mayS ts s).2 = s - wts ts)) := by
 intro m
 induction m with
 | zero =>
  refine ⟨fun t s h => by have := wt_pos t; omega, fun ts s h hs => ?_⟩
  cases ts with
  | nil => rw [foK_nil, wts_nil, okK_nil]; simp; omega
  | cons t ts => rw [wts_cons] at h; have := wt_pos t; omega
 | succ m ih =>
  have hT : ∀ (t : Tm) (s : Int), wt t ≤ m + 1 → 0 ≤ s → (foT mayB mayS t s).1 = (decide ((wt t : Int) ≤ s) && okT t) ∧ ((foT mayB mayS t s).1 = true → (foT mayB mayS t s).2 = s - wt t) := by
   intro t s h hs
   have hk := wt_ks t
   rw [foT_eq, okT_eq]
   have hb : mayB s t = (decide (0 ≤ s - 1) && nodeB t.h t.ks.length) := rfl
   by_cases h0 : 0 ≤ s - 1
   ·rw [decide_eq_true h0, Bool.true_and] at hb
    rw [hb]
    cases hn : nodeB t.h t.ks.length
    ·simp
    ·obtain ⟨h1, h2⟩ := ih.2 t.ks (mayS s t) (by omega) (by unfold mayS; omega)
     rw [if_pos rfl]
     refine ⟨?_, fun h => ?_⟩
     ·rw [h1, Bool.true_and]
      congr 1
      rw [decide_eq_decide]
      unfold mayS
      omega
     ·rw [h2 h]
      unfold mayS
      omega
   ·rw [decide_eq_false h0, Bool.false_and] at hb
    rw [hb, if_neg Bool.false_ne_true]
    have : decide ((wt t : Int) ≤ s) = false := decide_eq_false (by omega)
    rw [this]
    simp
  refine ⟨hT, fun ts => ?_⟩
  induction ts with
  | nil => intro s _ hs; rw [foK_nil, wts_nil, okK_nil]; simp; omega
  | cons t ts ihs =>
   intro s h hs
   rw [wts_cons] at h ⊢
   rw [foK_cons, okK_cons]
   obtain ⟨h1, h2⟩ := hT t s (by omega) hs
   cases hh : (foT mayB mayS t s).1
   ·rw [hh] at h1
    rw [if_neg Bool.false_ne_true]
    refine ⟨?_, fun h => by cases h⟩
    by_cases hle : (wt t : Int) ≤ s
    ·rw [decide_eq_true hle, Bool.true_and] at h1
     rw [← h1]
     simp
    ·rw [decide_eq_false (by omega : ¬ ((wt t + wts ts : Nat) : Int) ≤ s), Bool.false_and]
   ·rw [if_pos rfl]
    have h3 := h2 hh
    rw [hh] at h1
    have h4 : (wt t : Int) ≤ s ∧ okT t = true := by simpa using h1.symm
    obtain ⟨h5, h6⟩ := ihs (foT mayB mayS t s).2 (by omega) (by omega)
    refine ⟨?_, fun h => ?_⟩
    ·rw [h5, h4.2, Bool.true_and]
     congr 1
     rw [decide_eq_decide, h3]
     omega
    ·rw [h6 h, h3]
     omega
theorem fo_mayT (t : Tm) : (foK mayB mayS [t] 4000).1 = mayT t := by
 rw [((fo_may (wts [t])).2 [t] 4000 (Nat.le_refl _) (by omega)).1, okK_cons, okK_nil, wts_cons, wts_nil, Bool.and_true]
 unfold mayT
 congr 1
 rw [decide_eq_decide]
 omega

theorem reads_set {w0 W : World} {N : Nat} {u : Value} (h : Reads w0 W) (hn : ∀ a v, w0.cell? a = some v → a.block ≠ N) : Reads w0 (W.setCell ⟨N, 0, none⟩ u) := fun a v hv => by
 rw [World.cell?_of_block (w := W) (Below.heap_setCell W ⟨N, 0, none⟩ u a.block (hn a v hv))]
 exact h a v hv

set_option maxRecDepth 10000 in
set_option maxHeartbeats 3200000 in
theorem may1_walk (w0 : World) (N : Nat) (hkw : Words.KwLaid w0) : Steps 98 mayB mayS w0 N N (MayI w0 N) := by
 intro r s W t h p l c hi hT
 obtain ⟨hb, hn, hh, hs0, hs1⟩ := hi
 have he : mayB s t = (decide (0 ≤ s - 1) && nodeB h l) := by unfold mayB; rw [hT.head, hT.len]
 have hf := fun W hk => fits_walk' h p l c W hT.ok (Nat.le_trans hT.cap.1 hT.cap.2) hk
 obtain ⟨k, op, pl, nn, nm, ar, ex⟩ := h
 have cN := cell_of_one hh
 have fN := free_of_one hh
 have hNl := lt_of_block hh
 have hmid : ∀ O : Obj, (Reads w0 ((W.setCell ⟨N, 0, none⟩ (.int .i64 (s - 1))).alloc O)) ∧ Words.KwLaid ((W.setCell ⟨N, 0, none⟩ (.int .i64 (s - 1))).alloc O) ∧ ((W.setCell ⟨N, 0, none⟩ (.int .i64 (s - 1))).alloc O).heap[N]? = some (.cells #[.int .i64 (s - 1)] 3 (0, 0)) ∧ Stays N W ((W.setCell ⟨N, 0, none⟩ (.int .i64 (s - 1))).alloc O) := fun O => by
  have hb1 : Below (W.setCell ⟨N, 0, none⟩ (.int .i64 (s - 1))).heap.size (W.setCell ⟨N, 0, none⟩ (.int .i64 (s - 1))) ((W.setCell ⟨N, 0, none⟩ (.int .i64 (s - 1))).alloc O) := (Below.refl _ _).alloc (Nat.le_refl _) O
  have ho := one_setCell (u := .int .i64 (s - 1)) hh
  have hr := (reads_set (u := .int .i64 (s - 1)) hb hn).trans (Reads.of_below hb1)
  exact ⟨hr, fun k hk => hr _ _ (hkw k hk), (hb1.block N (lt_of_block ho)).trans ho, ((Stays.refl N W).set _).alloc O⟩
 have HM := Lib.hid hmid; have HE := Lib.hid he; have HF := Lib.hid hf; have HN := Lib.hid hn
 clear hmid hb hh hT he hf hn hkw
 by_cases h0 : 0 ≤ s - 1
 ·rw [decide_eq_true h0, Bool.true_and] at HE
  go_enter Tryz.func98, Tryz.ntmps98
  go_wp2_with (fail)
  refine (HF.out _ (HM.out _).2.1).mono ?_
  rintro e w1 ⟨rfl, hb1⟩
  have h1 := HM.out (.cells #[.int .u8 k, .int .u8 op, .int .i64 pl, .int .i64 nn, .string nm, .string ar, .string ex, .slice p l c] 89)
  have h2 : MayI w0 N r (mayS s t) w1 := MayI.goes.keep r _ _ _ ⟨h1.1, HN.out, h1.2.2.1, h0, by unfold mayS; omega⟩ hb1
  have h3 : Stays N W w1 := h1.2.2.2.trans (Stays.of_below hb1)
  have H2 := Lib.hid h2; have H3 := Lib.hid h3
  clear h1 h2 h3 hb1
  cases hx : nodeB ⟨k, op, pl, nn, nm, ar, ex⟩ l
  all_goals
   have HX := Lib.hid hx
   clear hx
   go_wp2
   go_ret
   exact ⟨ret_bool (by rw [HE.out, HX.out]), (fun _ => H2.out), H3.out⟩
 ·have hd : decide (0 ≤ s - 1) = false := decide_eq_false h0
  have hf : mayB s t = false := by rw [HE.out, hd, Bool.false_and]
  have HF := Lib.hid hf
  clear hf
  go_enter Tryz.func98, Tryz.ntmps98
  go_wp2
  go_ret
  exact ⟨ret_bool HF.out.symm, (fun h => by rw [HF.out] at h; cases h), (HM.out _).2.2.2⟩
theorem may_lay {w : World} {h : Hd} {p : Option Addr} {l c : Nat} {t : Tm} (hT : TmIs w h p l c t) (O : Obj) (x : Value) (ty ty' : TypeId) :
  ∃ w0 : World, Kids w0 (some ⟨w.heap.size + 2, 0, none⟩) [t] ∧ Below w.heap.size w w0 ∧ Reads w0 (((w.alloc O).alloc (.cells #[x] ty)).alloc (.cells (tcells h p l c).toArray ty')) ∧ ∀ a v, w0.cell? a = some v → a.block ≠ w.heap.size + 1 := by
 have hz1 : (w.alloc O).heap.size = w.heap.size + 1 := by simp
 have hz2 : ∀ Q : Obj, ((w.alloc O).alloc Q).heap.size = w.heap.size + 2 := fun Q => by simp
 have hb : Below w.heap.size w (((w.alloc O).alloc (.cells #[] ty)).alloc (.cells (tcells h p l c).toArray ty')) := (((Below.refl _ _).alloc (Nat.le_refl _) _).alloc (by simp) _).alloc (by simp; omega) _
 refine ⟨((w.alloc O).alloc (.cells #[] ty)).alloc (.cells (tcells h p l c).toArray ty'), ?_, hb, ?_, ?_⟩
 ·refine .atkids _ 0 [t] (fun _ => p) (fun _ => c) (fun i hi => ?_) (fun i hi j v hv => ?_) (fun i hi => ?_) (fun i hi => ?_)
  all_goals
   have hi0 : i = 0 := by simp at hi; omega
   subst hi0
   have hg : tget [t] 0 = t := rfl
   try rw [hg]
  ·rw [hT.head]; exact hT.ok
  ·rw [hg, hT.head, hT.len] at hv
   rw [← hz2 (.cells #[] ty), show (0 + 0 * 8 + j) = j from by omega, World.cell?_alloc_mark]
   simpa using hv
  ·rw [hT.len]; exact hT.cap
  ·exact hT.kids.stay hb
 ·intro a v hv
  have hlt := World.block_lt_of_cell? _ _ hv
  have hne : a.block ≠ w.heap.size + 1 := by
   intro e
   have h1 : (((w.alloc O).alloc (.cells #[] ty)).alloc (.cells (tcells h p l c).toArray ty')).heap[a.block]? = some (.cells #[] ty) := by
    rw [e, Below.heap_alloc _ _ _ (by rw [hz2]; omega), ← hz1]
    exact heap_alloc_new _ _
   unfold World.cell? at hv
   rw [h1] at hv
   simp at hv
  rw [← hv]
  apply World.cell?_of_block
  by_cases h2 : a.block = w.heap.size + 2
  ·have e1 := heap_alloc_new ((w.alloc O).alloc (.cells #[x] ty)) (.cells (tcells h p l c).toArray ty')
   have e2 := heap_alloc_new ((w.alloc O).alloc (.cells #[] ty)) (.cells (tcells h p l c).toArray ty')
   rw [hz2] at e1 e2
   rw [h2, e1, e2]
  ·have h3 : a.block < w.heap.size + 1 := by simp at hlt; omega
   rw [Below.heap_alloc ((w.alloc O).alloc (.cells #[x] ty)) _ _ (by rw [hz2]; omega), Below.heap_alloc (w.alloc O) (.cells #[x] ty) _ (by rw [hz1]; omega), Below.heap_alloc ((w.alloc O).alloc (.cells #[] ty)) _ _ (by rw [hz2]; omega), Below.heap_alloc (w.alloc O) (.cells #[] ty) _ (by rw [hz1]; omega)]
 ·intro a v hv e
  have h1 : (((w.alloc O).alloc (.cells #[] ty)).alloc (.cells (tcells h p l c).toArray ty')).heap[a.block]? = some (.cells #[] ty) := by
   rw [e, Below.heap_alloc _ _ _ (by rw [hz2]; omega), ← hz1]
   exact heap_alloc_new _ _
  unfold World.cell? at hv
  rw [h1] at hv
  simp at hv

set_option maxRecDepth 10000 in
set_option maxHeartbeats 3200000 in
theorem may_walk (t : Tm) (h : Hd) (p : Option Addr) (l c : Nat) (w : World) (hT : TmIs w h p l c t) (hkw : Words.KwLaid w) :
  Calls Tryz.prog 81 #[.agg #[.int .u8 h.k, .int .u8 h.op, .int .i64 h.pl, .int .i64 h.n, .string h.name, .string h.arg, .string h.exn, .slice p l c]] w fun e w' => e = .returned (.bool (mayT t)) ∧ Below w.heap.size w w' := by
 have hlay := fun O => may_lay hT O (.int .i64 4000) 3 89
 have hm := fo_mayT t
 obtain ⟨k, op, pl, nn, nm, ar, ex⟩ := h
 have hbox : ∀ O O' O'' : Obj, Below w.heap.size w (((w.alloc O).alloc O').alloc O'') := fun O O' O'' => (((Below.refl _ _).alloc (Nat.le_refl _) O).alloc (by simp) O').alloc (by simp; omega) O''
 have HLAY := Lib.hid hlay; have HM := Lib.hid hm; have HBOX := Lib.hid hbox; have HKW := Lib.hid hkw
 clear hlay hm hbox hT hkw
 go_enter Tryz.func81, Tryz.ntmps81
 go_wp2_with (fail)
 obtain ⟨w0, hk, hb, hr, hn⟩ := HLAY.out (.cells #[.int .u8 k, .int .u8 op, .int .i64 pl, .int .i64 nn, .string nm, .string ar, .string ex, .slice p l c] 89)
 have hs : MayI w0 (w.heap.size + 1) (0 + wts [t]) 4000 (((w.alloc (.cells #[.int .u8 k, .int .u8 op, .int .i64 pl, .int .i64 nn, .string nm, .string ar, .string ex, .slice p l c] 89)).alloc (.cells #[.int .i64 4000] 3)).alloc (.cells (tcells ⟨k, op, pl, nn, nm, ar, ex⟩ p l c).toArray 89)) :=
  ⟨hr, hn, by rw [Below.heap_alloc _ _ _ (by simp)]; exact (show (w.alloc (.cells #[.int .u8 k, .int .u8 op, .int .i64 pl, .int .i64 nn, .string nm, .string ar, .string ex, .slice p l c] 89)).heap.size = w.heap.size + 1 by simp) ▸ heap_alloc_new _ _, by omega, by omega⟩
 refine (allMay_walk mayB mayS w0 (w.heap.size + 1) (w.heap.size + 1) (MayI w0 (w.heap.size + 1)) MayI.goes (may1_walk w0 (w.heap.size + 1) (HKW.out.below hb)) (wts [t]) [t] _ 1 1 0 4000 _ (Nat.le_refl _) rfl (by unfold maxLen; omega) hk hs).mono ?_
 rintro e w1 ⟨rfl, _, hs1⟩
 have HB := Lib.hid ((HBOX.out _ _ _).trans (hs1.below (B := w.heap.size) (by omega) (HBOX.out _ _ _).size))
 clear hs1 hs hr hn hk hb
 rw [HM.out]
 cases hx : mayT t
 all_goals
  have HX := Lib.hid hx
  clear hx
  go_wp2
  go_ret
  exact ⟨ret_bool HX.out.symm, HB.out⟩
end Term
end Go.Proofs.YtkfkpjngiffamaaGreatDoor
namespace Go.Proofs.YtkfkpjngiffamaaGreatDoor
open Go.RowKit
set_option linter.unusedVariables false
set_option linter.unusedSimpArgs false
namespace Aterm
open Effect (RdI nget nget_at nget_mem ret_bool ret_i64 lt_of_block heap_alloc_new ofA)
open Rt (box_new box_at below_then)

theorem num_ok : Term.nodeB num0 0 = true := by decide
theorem nums_ok : ∀ m : Nat, Term.okK (List.replicate m numT) = true
 | 0 => Term.okK_nil
 | m + 1 => by
  rw [List.replicate_succ, Term.okK_cons, nums_ok m, Term.okT_eq]
  show (Term.nodeB num0 0 && Term.okK []) && true = true
  rw [num_ok, Term.okK_nil]; rfl
theorem nums_wt : ∀ m : Nat, Term.wts (List.replicate m numT) = m
 | 0 => Term.wts_nil
 | m + 1 => by
  rw [List.replicate_succ, Term.wts_cons, nums_wt m]
  have : Term.wt numT = 1 := by rw [Term.wt_ks]; show Term.wts [] + 1 = 1; rw [Term.wts_nil]
  omega
theorem like_may (h : Term.Hd) (l m : Nat) (hm : m = min l 4000) : Term.mayT (.node (likeH h) (List.replicate m numT)) = headOk h l := by
 unfold Term.mayT
 rw [Term.okT_eq, Term.wt_ks]
 show (decide (Term.wts (List.replicate m numT) + 1 ≤ 4000) && (Term.nodeB (likeH h) (List.replicate m numT).length && Term.okK (List.replicate m numT))) = _
 rw [nums_wt, nums_ok, List.length_replicate, Bool.and_true]
 by_cases hl : l ≤ 3
 ·have : m = l := by omega
  rw [this, decide_eq_true (by omega), Bool.true_and]
  rfl
 ·rw [head_many (by omega), show Term.nodeB (likeH h) m = headOk h m from rfl, head_many (by omega), Bool.and_false]
theorem like_ok {h : Term.Hd} (hk : Term.HdOk h) : Term.HdOk (likeH h) := by
 refine ⟨?_, hk.op, hk.pl, hk.n, hk.name, hk.arg, hk.exn⟩
 show 0 ≤ likeK h.k ∧ likeK h.k ≤ 255
 unfold likeK
 have := hk.k
 split
 ·omega
 ·split <;> omega
theorem num_range {W : World} {N : Nat} (hN : N = W.heap.size) {t : TypeId} : (W.alloc (.cells #[.int .u8 1, .int .u8 0, .int .i64 0, .int .i64 0, .string ⟨#[]⟩, .string ⟨#[]⟩, .string ⟨#[]⟩, .slice none 0 0] t)).rangeAt N 0 (Term.tcells num0 none 0 0) := by
 subst hN
 intro j v hv
 rw [Nat.zero_add, World.cell?_alloc_mark]
 simpa [Term.tcells, num0] using hv
set_option maxRecDepth 10000 in
set_option maxHeartbeats 6400000 in
theorem headFits_walk (t : AT) (h : Hd) (v : V) (l : Nat) (w : World) (hT : AtIs w h v l t) (hkw : Words.KwLaid w) :
  Calls Tryz.prog 60 #[.agg #[.int .u8 h.h.k, .int .u8 h.h.op, .int .i64 h.h.pl, .int .i64 h.h.n, .string h.h.name, .string h.h.arg, .string h.h.exn, .int .i64 h.rho, .slice v.ra h.rhos.length v.rc, .slice v.ea h.e.length v.ec, .int .u8 h.ty.h.k, .int .i64 h.ty.h.r, .slice v.tea h.ty.h.e.length v.tec, .slice v.tka h.ty.ks.length v.tkc, .int .u8 h.re.h.k, .int .i64 h.re.h.r, .slice v.sea h.re.h.e.length v.sec, .slice v.ska h.re.ks.length v.skc, .slice v.ka l v.kc]] w fun e w' => e = .returned (.bool (headOk h.h l)) ∧ Below w.heap.size w w' := by
 have hlc := (capA hT).1
 obtain ⟨m, hm⟩ : ∃ m, m = min l 4000 := ⟨_, rfl⟩
 have hmin : min (l : Int) 4000 = (m : Int) := by omega
 have hm4 : m ≤ 4000 := by omega
 have hlike := like_may h.h l m hm
 have hmay := fun (W : World) (q c : Nat) (hq : W.heap[q]? = some (.cells (lay m m).toArray 89 (0, 0))) (hc : m ≤ c ∧ c ≤ maxLen) (hb : Below w.heap.size w W) => Term.may_walk (.node (likeH h.h) (List.replicate m numT)) (likeH h.h) (some ⟨q, 0, none⟩) m c W ⟨rfl, by simp [Term.Tm.ks], like_ok hT.ok.hd, hc, kids_lay hq⟩ (hkw.below hb)
 have hcase : ((h.h.k == 17) = true ∧ (h.h.k == 18) = false ∧ (likeH h.h).k = 4) ∨ ((h.h.k == 17) = false ∧ (h.h.k == 18) = true ∧ (likeH h.h).k = 2) ∨ ((h.h.k == 17) = false ∧ (h.h.k == 18) = false ∧ (likeH h.h).k = h.h.k) := by
  unfold likeH likeK
  by_cases h17 : h.h.k = 17
  ·exact .inl ⟨by simpa using h17, by rw [h17]; decide, by simp [h17]⟩
  ·by_cases h18 : h.h.k = 18
   ·exact .inr (.inl ⟨by simpa using h17, by simpa using h18, by simp [h18]⟩)
   ·exact .inr (.inr ⟨by simpa using h17, by simpa using h18, by simp [h17, h18]⟩)
 have HLIKE := Lib.hid hlike; have HMAY := Lib.hid hmay; have HMIN := Lib.hid hmin; have HMM := Lib.hid hm
 clear hlike hmay hT hkw hmin hm
 rcases hcase with ⟨e17, e18, hlk⟩ | ⟨e17, e18, hlk⟩ | ⟨e17, e18, hlk⟩
 all_goals
  have HLK := Lib.hid hlk
  clear hlk
  go_enter Tryz.func60, Tryz.ntmps60
  go_upto_region 1 with (fail)
  obtain ⟨W0, hW0⟩ : ∃ W0, W0 = w.alloc (.cells #[.int .u8 h.h.k, .int .u8 h.h.op, .int .i64 h.h.pl, .int .i64 h.h.n, .string h.h.name, .string h.h.arg, .string h.h.exn, .int .i64 h.rho, .slice v.ra h.rhos.length v.rc, .slice v.ea h.e.length v.ec, .int .u8 h.ty.h.k, .int .i64 h.ty.h.r, .slice v.tea h.ty.h.e.length v.tec, .slice v.tka h.ty.ks.length v.tkc, .int .u8 h.re.h.k, .int .i64 h.re.h.r, .slice v.sea h.re.h.e.length v.sec, .slice v.ska h.re.ks.length v.skc, .slice v.ka l v.kc] 31) := ⟨_, rfl⟩
  have hbx : Box W0 w.heap.size h v l := by rw [hW0]; exact box_of (w := w) (h := h) (v := v) (l := l)
  have hb0 : Below w.heap.size w W0 := by rw [hW0]; exact box_new _
  rw [← hW0]
  clear hW0
  generalize hN0 : w.heap.size = N0 at hbx ⊢
  have HB0 := Lib.hid hb0; have HBX := Lib.hid hbx
  obtain ⟨b0, b1, b2, b3, b4, b5, b6, b7, b8, b9, b10, b11, b12, b13, b14, b15, b16, b17, b18⟩ := hbx
  clear hb0 b7 b8 b9 b10 b11 b12 b13 b14 b15 b16 b17
  have hlt0 : N0 < W0.heap.size := World.block_lt_of_cell? W0 _ b0
  have HN0 := Lib.hid hN0
  clear hN0
  go_upto_region 8 with (fail)
  obtain ⟨W2, hW2⟩ : ∃ W2, W2 = (W0.alloc (.cells #[.int .u8 (likeH h.h).k, .int .u8 h.h.op, .int .i64 h.h.pl, .int .i64 h.h.n, .string h.h.name, .string h.h.arg, .string h.h.exn, .slice none 0 0] 89)).alloc (.cells #[.int .u8 1, .int .u8 0, .int .i64 0, .int .i64 0, .string ⟨#[]⟩, .string ⟨#[]⟩, .string ⟨#[]⟩, .slice none 0 0] 89) := ⟨_, rfl⟩
  have hs1 : (W0.alloc (.cells #[.int .u8 (likeH h.h).k, .int .u8 h.h.op, .int .i64 h.h.pl, .int .i64 h.h.n, .string h.h.name, .string h.h.arg, .string h.h.exn, .slice none 0 0] 89)).heap.size = W0.heap.size + 1 := by simp
  have hx : W2.heap[W0.heap.size]? = some (.cells #[.int .u8 (likeH h.h).k, .int .u8 h.h.op, .int .i64 h.h.pl, .int .i64 h.h.n, .string h.h.name, .string h.h.arg, .string h.h.exn, .slice none 0 0] 89 (0, 0)) := by rw [hW2]; exact ((box_new _).block _ (by omega)).trans (heap_alloc_new _ _)
  have hy : W2.heap[W0.heap.size + 1]? = some (.cells #[.int .u8 1, .int .u8 0, .int .i64 0, .int .i64 0, .string ⟨#[]⟩, .string ⟨#[]⟩, .string ⟨#[]⟩, .slice none 0 0] 89 (0, 0)) := by
   have := heap_alloc_new (W0.alloc (.cells #[.int .u8 (likeH h.h).k, .int .u8 h.h.op, .int .i64 h.h.pl, .int .i64 h.h.n, .string h.h.name, .string h.h.arg, .string h.h.exn, .slice none 0 0] 89)) (.cells #[.int .u8 1, .int .u8 0, .int .i64 0, .int .i64 0, .string ⟨#[]⟩, .string ⟨#[]⟩, .string ⟨#[]⟩, .slice none 0 0] 89)
   rw [hs1] at this
   rw [hW2]; exact this
  have hb2 : Below W0.heap.size W0 W2 := by rw [hW2]; exact (box_new _).trans ((box_new _).mono (by omega))
  have hsz2 : W0.heap.size + 2 = W2.heap.size := by rw [hW2]; simp
  have hlt2 : N0 < W2.heap.size := by have := hb2.size; omega
  have c18 := (hb2.cell (p := ⟨N0, 18, none⟩) hlt0).trans b18
  rw [HLK.out] at hW2
  rw [← hW2]
  clear hW2 hs1
  have HX := Lib.hid hx; have HB2 := Lib.hid (below_then HB0.out hb2 HB0.out.size); have HZ2 := Lib.hid hsz2
  obtain ⟨⟨y0, y1, y2, y3, y4, y5, y6, y7⟩, -⟩ := cells8t hy
  clear hx hy hb2 hsz2 b0 b1 b2 b3 b4 b5 b6 b18
  go_wp2_with (fail)
  rw [HMIN.out]
  refine (repeat_walk W2.heap.size 1 m (W2.alloc (.cells #[.int .u8 1, .int .u8 0, .int .i64 0, .int .i64 0, .string ⟨#[]⟩, .string ⟨#[]⟩, .string ⟨#[]⟩, .slice none 0 0] 89)) hm4 (num_range rfl)).mono ?_
  rintro e w3 ⟨q, rfl, hq, hqs, hb3⟩
  have hb3' : Below W2.heap.size W2 w3 := (box_new _).trans (hb3.mono (by simp))
  have hx3 := (hb3'.block _ (lt_of_block HX.out)).trans HX.out
  have hqn : q ≠ W0.heap.size := by
   have h1 := HZ2.out
   have h2 : W2.heap.size < (W2.alloc (.cells #[.int .u8 1, .int .u8 0, .int .i64 0, .int .i64 0, .string ⟨#[]⟩, .string ⟨#[]⟩, .string ⟨#[]⟩, .slice none 0 0] 89)).heap.size := by simp
   omega
  have hw3 := below_then HB2.out hb3' HB2.out.size
  have hq' : (w3.setCell ⟨W0.heap.size, 7, none⟩ (.slice (some ⟨q, 0, none⟩) m m)).heap[q]? = some (.cells (lay m m).toArray 89 (0, 0)) := (Below.heap_setCell _ _ _ _ hqn).trans hq
  have hb4 : Below w.heap.size w (w3.setCell ⟨W0.heap.size, 7, none⟩ (.slice (some ⟨q, 0, none⟩) m m)) := hw3.setCell (p := ⟨W0.heap.size, 7, none⟩) HB0.out.size _
  have hcall := HMAY.out _ q m hq' ⟨Nat.le_refl _, by unfold maxLen; omega⟩ hb4
  obtain ⟨⟨x0, x1, x2, x3, x4, x5, x6, x7⟩, f0, f1, f2, f3, f4, f5, f6, f7⟩ := cells8t hx3
  have HCALL := Lib.hid hcall; have HB4 := Lib.hid hb4
  clear hq hqs hb3 hb3' hx3 hqn hw3 hq' hb4 hcall y0 y1 y2 y3 y4 y5 y6 y7 c18
  go_wp2_with (fail)
  refine HCALL.out.mono ?_
  rintro e w5 ⟨rfl, hb5⟩
  have HB5 := Lib.hid (below_then HB4.out hb5 HB4.out.size)
  clear hb5
  rw [HLIKE.out]
  generalize hX : headOk h.h l = X at *
  have HX5 := Lib.hid hX
  clear hX
  go_wp2_with (fail)
  go_ret
  exact ⟨ret_bool HX5.out.symm, HB5.out⟩

def bareN (h : Hd) : Hd := ⟨h.h, 0, h.rhos, [], .node ⟨0, 0, []⟩ [], .node ⟨0, 0, []⟩ []⟩
def bareV (v : V) : V := ⟨v.ra, v.rc, none, 0, none, 0, none, 0, none, 0, none, 0, none, 0⟩
theorem zeroEff (w : World) : Rt.EffIs w none 0 0 [] := ⟨⟨rfl, .inl rfl, fun x hx => by cases hx⟩, Nat.le_refl _, by unfold maxLen; omega⟩
theorem zeroRt (w : World) : Rt.RtIs w ⟨0, 0, []⟩ none 0 0 none 0 0 (.node ⟨0, 0, []⟩ []) :=
 ⟨rfl, rfl, rfl, ⟨by decide, by decide, fun x hx => by cases hx⟩, zeroEff w, ⟨Nat.le_refl _, by unfold maxLen; omega⟩, .nokids _⟩
theorem bareN_is {w : World} {t : AT} {h : Hd} {v : V} {l : Nat} (hT : AtIs w h v l t) : AtIs w (bareN h) (bareV v) 0 (.node (bareN h) []) :=
 ⟨rfl, rfl, ⟨hT.ok.hd, by show (-9223372036854775808 : Int) ≤ 0 ∧ (0 : Int) ≤ 9223372036854775807; omega, hT.ok.rhos, hT.ok.rcap, zeroEff w, (fun x hx => by cases hx), zeroRt w, zeroRt w⟩, ⟨Nat.le_refl _, by show 0 ≤ maxLen; unfold maxLen; omega⟩, .nokids _⟩
theorem bareN_apart {h : Hd} (hk : h.h.k = 13) : (apartT (.node (bareN h) [])).isNone = !metO [] h.rhos := by
 unfold apartT
 rw [flatT_eq]
 show (apartL [.node (bareN h) []] []).isNone = _
 rw [apartL]
 have ho : ownH (AT.node (bareN h) []).h = h.rhos := by
  show ownH (bareN h) = h.rhos
  unfold ownH bareN
  simp only
  rw [if_neg (by rw [hk]; decide), if_pos hk]
 rw [ho]
 split
 ·rename_i hm; rw [hm]; rfl
 ·rename_i hm
  have hm' : metO [] h.rhos = false := by simpa using hm
  rw [hm']; rfl
set_option maxRecDepth 10000 in
set_option maxHeartbeats 6400000 in
theorem rhosFit_walk (t : AT) (h : Hd) (v : V) (l : Nat) (w : World) (hT : AtIs w h v l t) (hf : fewB h l = true) :
  Calls Tryz.prog 62 #[.agg #[.int .u8 h.h.k, .int .u8 h.h.op, .int .i64 h.h.pl, .int .i64 h.h.n, .string h.h.name, .string h.h.arg, .string h.h.exn, .int .i64 h.rho, .slice v.ra h.rhos.length v.rc, .slice v.ea h.e.length v.ec, .int .u8 h.ty.h.k, .int .i64 h.ty.h.r, .slice v.tea h.ty.h.e.length v.tec, .slice v.tka h.ty.ks.length v.tkc, .int .u8 h.re.h.k, .int .i64 h.re.h.r, .slice v.sea h.re.h.e.length v.sec, .slice v.ska h.re.ks.length v.skc, .slice v.ka l v.kc]] w fun e w' => e = .returned (.bool (rhosOk h)) ∧ Below w.heap.size w w' := by
 have hr : rhosOk h = if h.h.k = 13 then !metO [] h.rhos && decide (∀ x ∈ h.rhos, 1 ≤ x) else if h.h.k = 18 then decide (∀ x ∈ h.rhos, 0 ≤ x) else decide (h.rhos.length = 0) := rfl
 have hlen : h.rhos.length ≤ 50 := of_decide_eq_true hf
 have hap := fun (W : World) (hb : Below w.heap.size w W) => apart_walk (.node (bareN h) []) (bareN h) (bareV v) 0 W ((bareN_is hT).below hb) (by rw [wt_ks]; show wts [] + 1 ≤ 100000; rw [wts_nil]; omega) (by rw [allT_eq]; show (fewB (bareN h) 0 && allK fewB []) = true; rw [allK_nil, Bool.and_true]; exact hf)
 have hfrom := fun (W : World) (hb : Below w.heap.size w W) (least : Int) => from_walk (c := v.rc) (hT.ok.rhos.below hb) (by omega) least
 have HAP := Lib.hid hap; have HFROM := Lib.hid hfrom
 clear hap hfrom hT hf
 by_cases h13 : h.h.k = 13
 ·rw [if_pos h13, ← bareN_apart h13] at hr
  have e13 : (h.h.k == 13) = true := by simpa using h13
  have HR := Lib.hid hr
  clear hr h13
  go_enter Tryz.func62, Tryz.ntmps62
  go_upto_region 1 with (fail)
  obtain ⟨W0, hW0⟩ : ∃ W0, W0 = w.alloc (.cells #[.int .u8 h.h.k, .int .u8 h.h.op, .int .i64 h.h.pl, .int .i64 h.h.n, .string h.h.name, .string h.h.arg, .string h.h.exn, .int .i64 h.rho, .slice v.ra h.rhos.length v.rc, .slice v.ea h.e.length v.ec, .int .u8 h.ty.h.k, .int .i64 h.ty.h.r, .slice v.tea h.ty.h.e.length v.tec, .slice v.tka h.ty.ks.length v.tkc, .int .u8 h.re.h.k, .int .i64 h.re.h.r, .slice v.sea h.re.h.e.length v.sec, .slice v.ska h.re.ks.length v.skc, .slice v.ka l v.kc] 31) := ⟨_, rfl⟩
  have hbx : Box W0 w.heap.size h v l := by rw [hW0]; exact box_of (w := w) (h := h) (v := v) (l := l)
  have hb0 : Below w.heap.size w W0 := by rw [hW0]; exact box_new _
  rw [← hW0]
  clear hW0
  generalize hN0 : w.heap.size = N0 at hbx ⊢
  have HB0 := Lib.hid hb0; have HBX := Lib.hid hbx
  obtain ⟨b0, b1, b2, b3, b4, b5, b6, b7, b8, b9, b10, b11, b12, b13, b14, b15, b16, b17, b18⟩ := hbx
  clear hb0 hN0 b7 b9 b10 b11 b12 b13 b14 b15 b16 b17 b18
  go_wp2_with (fail)
  refine (HAP.out W0 HB0.out).mono ?_
  rintro e w1 ⟨rfl, hb1⟩
  have HB1 := Lib.hid (below_then HB0.out hb1 HB0.out.size)
  obtain ⟨b0, b1, b2, b3, b4, b5, b6, b7, b8, b9, b10, b11, b12, b13, b14, b15, b16, b17, b18⟩ := HBX.out.below hb1
  clear hb1 b0 b1 b2 b3 b4 b5 b6 b7 b9 b10 b11 b12 b13 b14 b15 b16 b17 b18
  have hr := HR.out
  cases hX : (apartT (.node (bareN h) [])).isNone
  ·rw [hX, Bool.false_and] at hr
   have HR2 := Lib.hid hr
   clear hr hX
   go_wp2_with (fail)
   go_ret
   exact ⟨ret_bool HR2.out.symm, HB1.out⟩
  ·rw [hX, Bool.true_and] at hr
   have HR2 := Lib.hid hr
   clear hr hX
   go_wp2_with (fail)
   refine (HFROM.out w1 HB1.out 1).mono ?_
   rintro e w2 ⟨rfl, hb2⟩
   have HB2 := Lib.hid (below_then HB1.out hb2 HB1.out.size)
   clear hb2 b8
   generalize decide (∀ x ∈ h.rhos, (1 : Int) ≤ x) = X at *
   go_wp2_with (fail)
   go_ret
   exact ⟨ret_bool HR2.out.symm, HB2.out⟩
 ·rw [if_neg h13] at hr
  have e13 := of_not h13
  clear h13
  by_cases h18 : h.h.k = 18
  ·rw [if_pos h18] at hr
   have e18 : (h.h.k == 18) = true := by simpa using h18
   have HR := Lib.hid hr
   clear hr h18
   go_enter Tryz.func62, Tryz.ntmps62
   go_upto_region 1 with (fail)
   obtain ⟨W0, hW0⟩ : ∃ W0, W0 = w.alloc (.cells #[.int .u8 h.h.k, .int .u8 h.h.op, .int .i64 h.h.pl, .int .i64 h.h.n, .string h.h.name, .string h.h.arg, .string h.h.exn, .int .i64 h.rho, .slice v.ra h.rhos.length v.rc, .slice v.ea h.e.length v.ec, .int .u8 h.ty.h.k, .int .i64 h.ty.h.r, .slice v.tea h.ty.h.e.length v.tec, .slice v.tka h.ty.ks.length v.tkc, .int .u8 h.re.h.k, .int .i64 h.re.h.r, .slice v.sea h.re.h.e.length v.sec, .slice v.ska h.re.ks.length v.skc, .slice v.ka l v.kc] 31) := ⟨_, rfl⟩
   have hbx : Box W0 w.heap.size h v l := by rw [hW0]; exact box_of (w := w) (h := h) (v := v) (l := l)
   have hb0 : Below w.heap.size w W0 := by rw [hW0]; exact box_new _
   rw [← hW0]
   clear hW0
   generalize hN0 : w.heap.size = N0 at hbx ⊢
   have HB0 := Lib.hid hb0; have HBX := Lib.hid hbx
   obtain ⟨b0, b1, b2, b3, b4, b5, b6, b7, b8, b9, b10, b11, b12, b13, b14, b15, b16, b17, b18⟩ := hbx
   clear hb0 hN0 b1 b2 b3 b4 b5 b6 b7 b9 b10 b11 b12 b13 b14 b15 b16 b17 b18
   go_wp2_with (fail)
   refine (HFROM.out W0 HB0.out 0).mono ?_
   rintro e w2 ⟨rfl, hb2⟩
   have HB2 := Lib.hid (below_then HB0.out hb2 HB0.out.size)
   clear hb2 b0 b8
   generalize decide (∀ x ∈ h.rhos, (0 : Int) ≤ x) = X at *
   go_wp2_with (fail)
   go_ret
   exact ⟨ret_bool HR.out.symm, HB2.out⟩
  ·rw [if_neg h18] at hr
   have e18 := of_not h18
   have hd : decide (h.rhos.length = 0) = ((h.rhos.length : Int) == 0) := by
    by_cases e : h.rhos.length = 0
    ·simp [e]
    ·have : ((h.rhos.length : Int) == 0) = false := by rw [beq_eq_false_iff_ne]; omega
     rw [this, decide_eq_false e]
   have HR := Lib.hid (hr.trans hd)
   clear hr h18 hd
   go_enter Tryz.func62, Tryz.ntmps62
   go_upto_region 1 with (fail)
   obtain ⟨W0, hW0⟩ : ∃ W0, W0 = w.alloc (.cells #[.int .u8 h.h.k, .int .u8 h.h.op, .int .i64 h.h.pl, .int .i64 h.h.n, .string h.h.name, .string h.h.arg, .string h.h.exn, .int .i64 h.rho, .slice v.ra h.rhos.length v.rc, .slice v.ea h.e.length v.ec, .int .u8 h.ty.h.k, .int .i64 h.ty.h.r, .slice v.tea h.ty.h.e.length v.tec, .slice v.tka h.ty.ks.length v.tkc, .int .u8 h.re.h.k, .int .i64 h.re.h.r, .slice v.sea h.re.h.e.length v.sec, .slice v.ska h.re.ks.length v.skc, .slice v.ka l v.kc] 31) := ⟨_, rfl⟩
   have hbx : Box W0 w.heap.size h v l := by rw [hW0]; exact box_of (w := w) (h := h) (v := v) (l := l)
   have hb0 : Below w.heap.size w W0 := by rw [hW0]; exact box_new _
   rw [← hW0]
   clear hW0
   generalize hN0 : w.heap.size = N0 at hbx ⊢
   have HB0 := Lib.hid hb0; have HBX := Lib.hid hbx
   obtain ⟨b0, b1, b2, b3, b4, b5, b6, b7, b8, b9, b10, b11, b12, b13, b14, b15, b16, b17, b18⟩ := hbx
   clear hb0 hN0 b1 b2 b3 b4 b5 b6 b7 b9 b10 b11 b12 b13 b14 b15 b16 b17 b18
   go_wp2_with (fail)
   go_ret
   exact ⟨ret_bool HR.out.symm, HB0.out⟩
end Aterm
end Go.Proofs.YtkfkpjngiffamaaGreatDoor
namespace Go.Proofs.YtkfkpjngiffamaaGreatDoor
open Go.RowKit
set_option linter.unusedVariables false
set_option linter.unusedSimpArgs false
namespace Aterm
open Effect (RdI nget nget_at nget_mem ret_bool ret_i64 lt_of_block heap_alloc_new ofA)
open Rt (box_new box_at below_then)

theorem small_ok2 {h : Hd} {n : Nat} (hs : smallB h n = true) : h.rhos.length ≤ 50 ∧ (h.e.length ≤ 100 ∧ ∀ x ∈ h.e, x.x.size ≤ 100) ∧ Rt.allT (Rt.effB 100000) h.ty = true ∧ Rt.allT (Rt.effB 100000) h.re = true := by
 unfold smallB at hs
 obtain ⟨h1, h2, h3, h4⟩ := long_no (by simpa using hs)
 have up : ∀ t : Rt.RT, Rt.greatT t = false → Rt.allT (Rt.effB 100000) t = true := fun t ht =>
  (Rt.all_imp (fun h n hh => Rt.eff_iff.2 (by have := Rt.eff_iff.1 hh; exact ⟨by omega, fun x hx => by have := this.2 x hx; omega⟩)) _).1 t (Nat.le_refl _) (Rt.small_eff ht).2
 exact ⟨h1.2.2.2, Effect.great_no h2, up _ h3, up _ h4⟩
set_option maxRecDepth 10000 in
set_option maxHeartbeats 6400000 in
theorem fits_walk (t : AT) (h : Hd) (v : V) (l : Nat) (w : World) (hT : AtIs w h v l t) (hs : smallB h l = true) (hkw : Words.KwLaid w) :
  Calls Tryz.prog 45 #[.agg #[.int .u8 h.h.k, .int .u8 h.h.op, .int .i64 h.h.pl, .int .i64 h.h.n, .string h.h.name, .string h.h.arg, .string h.h.exn, .int .i64 h.rho, .slice v.ra h.rhos.length v.rc, .slice v.ea h.e.length v.ec, .int .u8 h.ty.h.k, .int .i64 h.ty.h.r, .slice v.tea h.ty.h.e.length v.tec, .slice v.tka h.ty.ks.length v.tkc, .int .u8 h.re.h.k, .int .i64 h.re.h.r, .slice v.sea h.re.h.e.length v.sec, .slice v.ska h.re.ks.length v.skc, .slice v.ka l v.kc]] w fun e w' => e = .returned (.bool (nodeB h l)) ∧ Below w.heap.size w w' := by
 obtain ⟨r1, ⟨e1, _⟩, y1, z1⟩ := small_ok2 hs
 have hn : nodeB h l = (headOk h.h l && rhoOk h && rhosOk h && effOk h && typOk h && resOk h) := rfl
 have h1 := fun (W : World) (hb : Below w.heap.size w W) => headFits_walk t h v l W (hT.below hb) (hkw.below hb)
 have h2 := fun (W : World) (hb : Below w.heap.size w W) => rhoFits_walk t h v l W (hT.below hb)
 have h3 := fun (W : World) (hb : Below w.heap.size w W) => rhosFit_walk t h v l W (hT.below hb) (decide_eq_true r1)
 have h4 := fun (W : World) (hb : Below w.heap.size w W) => effFits_walk t h v l W (hT.below hb) (by omega)
 have h5 := fun (W : World) (hb : Below w.heap.size w W) => typeFits_walk t h v l W (hT.below hb) y1
 have h6 := fun (W : World) (hb : Below w.heap.size w W) => resFits_walk t h v l W (hT.below hb) z1
 have H1 := Lib.hid h1; have H2 := Lib.hid h2; have H3 := Lib.hid h3; have H4 := Lib.hid h4; have H5 := Lib.hid h5; have H6 := Lib.hid h6; have HN := Lib.hid hn
 clear h1 h2 h3 h4 h5 h6 hT hs hkw hn r1 e1 y1 z1
 go_enter Tryz.func45, Tryz.ntmps45
 go_upto_region 1 with (fail)
 obtain ⟨W0, hW0⟩ : ∃ W0, W0 = w.alloc (.cells #[.int .u8 h.h.k, .int .u8 h.h.op, .int .i64 h.h.pl, .int .i64 h.h.n, .string h.h.name, .string h.h.arg, .string h.h.exn, .int .i64 h.rho, .slice v.ra h.rhos.length v.rc, .slice v.ea h.e.length v.ec, .int .u8 h.ty.h.k, .int .i64 h.ty.h.r, .slice v.tea h.ty.h.e.length v.tec, .slice v.tka h.ty.ks.length v.tkc, .int .u8 h.re.h.k, .int .i64 h.re.h.r, .slice v.sea h.re.h.e.length v.sec, .slice v.ska h.re.ks.length v.skc, .slice v.ka l v.kc] 31) := ⟨_, rfl⟩
 have hbx : Box W0 w.heap.size h v l := by rw [hW0]; exact box_of (w := w) (h := h) (v := v) (l := l)
 have hb0 : Below w.heap.size w W0 := by rw [hW0]; exact box_new _
 rw [← hW0]
 clear hW0
 generalize hN0 : w.heap.size = N0 at hbx ⊢
 have HB0 := Lib.hid hb0; have HBX := Lib.hid hbx; have HRG := Lib.hid hbx.range
 obtain ⟨b0, b1, b2, b3, b4, b5, b6, b7, b8, b9, b10, b11, b12, b13, b14, b15, b16, b17, b18⟩ := hbx
 clear hb0 hN0 b0 b1 b2 b3 b4 b5 b6 b7 b8 b9 b10 b11 b12 b13 b14 b15 b16 b17 b18
 have HW0 := Lib.hid (Below.refl W0.heap.size W0)
 have hrg0 := range_below HRG.out HW0.out
 have HG0 := Lib.hid hrg0
 clear hrg0
 go_wp2_with (refine at_load rfl _ rfl N0 0 rfl HG0.out ?_)
 refine (H1.out _ (below_then HB0.out HW0.out HB0.out.size)).mono ?_
 rintro e1 w1 ⟨rfl, hb1⟩
 have HW1 := Lib.hid (HW0.out.trans (hb1.mono HW0.out.size))
 clear hb1 HG0
 have hn := HN.out
 cases hq1 : headOk h.h l
 ·rw [hq1] at hn; simp only [Bool.false_and, Bool.and_false, Bool.true_and] at hn
  have HN2 := Lib.hid hn
  clear hn hq1
  go_wp2_with (fail)
  go_ret
  exact ⟨ret_bool HN2.out.symm, below_then HB0.out HW1.out HB0.out.size⟩
 rw [hq1] at hn; simp only [Bool.true_and] at hn
 clear HN
 have HN := Lib.hid hn
 clear hn hq1
 have hrg1 := range_below HRG.out HW1.out
 have HG1 := Lib.hid hrg1
 clear hrg1
 go_wp2_with (refine at_load_g (by rfl) _ rfl N0 0 rfl HG1.out ?_)
 refine (H2.out _ (below_then HB0.out HW1.out HB0.out.size)).mono ?_
 rintro e2 w2 ⟨rfl, hb2⟩
 have HW2 := Lib.hid (HW1.out.trans (hb2.mono HW1.out.size))
 clear hb2 HG1
 have hn := HN.out
 cases hq2 : rhoOk h
 ·rw [hq2] at hn; simp only [Bool.false_and, Bool.and_false, Bool.true_and] at hn
  have HN2 := Lib.hid hn
  clear hn hq2
  go_wp2_with (fail)
  go_ret
  exact ⟨ret_bool HN2.out.symm, below_then HB0.out HW2.out HB0.out.size⟩
 rw [hq2] at hn; simp only [Bool.true_and] at hn
 clear HN
 have HN := Lib.hid hn
 clear hn hq2
 have hrg2 := range_below HRG.out HW2.out
 have HG2 := Lib.hid hrg2
 clear hrg2
 go_wp2_with (refine at_load_g (by rfl) _ rfl N0 0 rfl HG2.out ?_)
 refine (H3.out _ (below_then HB0.out HW2.out HB0.out.size)).mono ?_
 rintro e3 w3 ⟨rfl, hb3⟩
 have HW3 := Lib.hid (HW2.out.trans (hb3.mono HW2.out.size))
 clear hb3 HG2
 have hn := HN.out
 cases hq3 : rhosOk h
 ·rw [hq3] at hn; simp only [Bool.false_and, Bool.and_false, Bool.true_and] at hn
  have HN2 := Lib.hid hn
  clear hn hq3
  go_wp2_with (fail)
  go_ret
  exact ⟨ret_bool HN2.out.symm, below_then HB0.out HW3.out HB0.out.size⟩
 rw [hq3] at hn; simp only [Bool.true_and] at hn
 clear HN
 have HN := Lib.hid hn
 clear hn hq3
 have hrg3 := range_below HRG.out HW3.out
 have HG3 := Lib.hid hrg3
 clear hrg3
 go_wp2_with (refine at_load_g (by rfl) _ rfl N0 0 rfl HG3.out ?_)
 refine (H4.out _ (below_then HB0.out HW3.out HB0.out.size)).mono ?_
 rintro e4 w4 ⟨rfl, hb4⟩
 have HW4 := Lib.hid (HW3.out.trans (hb4.mono HW3.out.size))
 clear hb4 HG3
 have hn := HN.out
 cases hq4 : effOk h
 ·rw [hq4] at hn; simp only [Bool.false_and, Bool.and_false, Bool.true_and] at hn
  have HN2 := Lib.hid hn
  clear hn hq4
  go_wp2_with (fail)
  go_ret
  exact ⟨ret_bool HN2.out.symm, below_then HB0.out HW4.out HB0.out.size⟩
 rw [hq4] at hn; simp only [Bool.true_and] at hn
 clear HN
 have HN := Lib.hid hn
 clear hn hq4
 have hrg4 := range_below HRG.out HW4.out
 have HG4 := Lib.hid hrg4
 clear hrg4
 go_wp2_with (refine at_load_g (by rfl) _ rfl N0 0 rfl HG4.out ?_)
 refine (H5.out _ (below_then HB0.out HW4.out HB0.out.size)).mono ?_
 rintro e5 w5 ⟨rfl, hb5⟩
 have HW5 := Lib.hid (HW4.out.trans (hb5.mono HW4.out.size))
 clear hb5 HG4
 have hn := HN.out
 cases hq5 : typOk h
 ·rw [hq5] at hn; simp only [Bool.false_and, Bool.and_false, Bool.true_and] at hn
  have HN2 := Lib.hid hn
  clear hn hq5
  go_wp2_with (fail)
  go_ret
  exact ⟨ret_bool HN2.out.symm, below_then HB0.out HW5.out HB0.out.size⟩
 rw [hq5] at hn; simp only [Bool.true_and] at hn
 clear HN
 have HN := Lib.hid hn
 clear hn hq5
 have hrg5 := range_below HRG.out HW5.out
 have HG5 := Lib.hid hrg5
 clear hrg5
 go_wp2_with (refine at_load_g (by rfl) _ rfl N0 0 rfl HG5.out ?_)
 refine (H6.out _ (below_then HB0.out HW5.out HB0.out.size)).mono ?_
 rintro e6 w6 ⟨rfl, hb6⟩
 have HW6 := Lib.hid (HW5.out.trans (hb6.mono HW5.out.size))
 clear hb6 HG5
 have hn := HN.out
 generalize hX : resOk h = X at *
 have HN2 := Lib.hid hn
 clear hn hX
 go_wp2_with (fail)
 go_ret
 exact ⟨ret_bool HN2.out.symm, below_then HB0.out HW6.out HB0.out.size⟩
end Aterm
end Go.Proofs.YtkfkpjngiffamaaGreatDoor
namespace Go.Proofs.YtkfkpjngiffamaaGreatDoor
open Go.RowKit
set_option linter.unusedVariables false
set_option linter.unusedSimpArgs false
namespace Aterm
open Effect (RdI nget nget_at nget_mem ret_bool ret_i64 lt_of_block heap_alloc_new ofA)
open Rt (box_new box_at below_then)

structure MayAt (w0 : World) (N : Nat) (s : Int) (W : World) : Prop where
 box : W.heap[N]? = some (.cells #[.int .i64 s] 3 (0, 0))
 low : w0.heap.size ≤ N
def MayP (N : Nat) (k : Nat) (_ : Option Obj) : Prop := k = N
def MayI (w0 : World) (N : Nat) (r : Nat) (s : Int) (W : World) : Prop := MayAt w0 N s W ∧ s ≤ 40000 ∧ -1000000 ≤ s - r
theorem MayI.goes {w0 : World} {N : Nat} (hN : w0.heap.size ≤ N) : Goes w0 (MayP N) (MayI w0 N) where
 low := fun k O hk h => by have h' : k = N := h; omega
 new := fun r s W h cs fz hp => by
  have e1 := lt_of_block h.1.box
  have h' : W.heap.size = N := hp
  omega
 keep := fun r s W W' h hb => ⟨⟨(hb.block N (lt_of_block h.1.box)).trans h.1.box, h.1.low⟩, h.2⟩
 less := fun r r' s W h hr => ⟨h.1, h.2.1, by have := h.2.2; omega⟩
set_option maxRecDepth 10000 in
set_option maxHeartbeats 3200000 in
theorem may1_walk (w0 : World) (N : Nat) (hkw : Words.KwLaid w0) : Steps 44 [.pointer (some ⟨N, 0, none⟩)] mayB mayS smallB w0 (MayP N) (MayI w0 N) := by
 intro r s W t h v l hi hT hC hb0
 obtain ⟨hA, hs1, hs2⟩ := hi
 have hs3 : -1000000 ≤ s := by omega
 have hB : mayB s t = (decide (0 ≤ s - 1) && nodeB h l) := by unfold mayB; rw [hT.head, hT.len]
 have hf := fun (W' : World) (hb : Below w0.heap.size w0 W') => fits_walk t h v l W' (hT.below hb) hC (hkw.below hb)
 have hset : ∀ V : World, V.heap[N]? = some (.cells #[.int .i64 s] 3 (0, 0)) → (V.setCell ⟨N, 0, none⟩ (.int .i64 (s - 1))).heap[N]? = some (.cells #[.int .i64 (s - 1)] 3 (0, 0)) ∧ Tch (MayP N) V (V.setCell ⟨N, 0, none⟩ (.int .i64 (s - 1))) := fun V hV =>
  ⟨by simp [World.setCell, Array.getElem?_modify, hV], ⟨rfl, rfl, rfl, by simp [World.setCell], fun k _ hn => Below.heap_setCell _ _ _ _ hn⟩⟩
 have HA := Lib.hid hA; have HBB := Lib.hid hB; have HF := Lib.hid hf; have HB00 := Lib.hid hb0; have HSET := Lib.hid hset; have HS2 := Lib.hid hs2
 clear hA hB hf hT hC hb0 hkw hset hs2
 show Calls Tryz.prog 44 #[.agg #[.int .u8 h.h.k, .int .u8 h.h.op, .int .i64 h.h.pl, .int .i64 h.h.n, .string h.h.name, .string h.h.arg, .string h.h.exn, .int .i64 h.rho, .slice v.ra h.rhos.length v.rc, .slice v.ea h.e.length v.ec, .int .u8 h.ty.h.k, .int .i64 h.ty.h.r, .slice v.tea h.ty.h.e.length v.tec, .slice v.tka h.ty.ks.length v.tkc, .int .u8 h.re.h.k, .int .i64 h.re.h.r, .slice v.sea h.re.h.e.length v.sec, .slice v.ska h.re.ks.length v.skc, .slice v.ka l v.kc], .pointer (some ⟨N, 0, none⟩)] W _
 go_enter Tryz.func44, Tryz.ntmps44
 go_upto_region 1 with (fail)
 obtain ⟨W0, hW0⟩ : ∃ W0, W0 = W.alloc (.cells #[.int .u8 h.h.k, .int .u8 h.h.op, .int .i64 h.h.pl, .int .i64 h.h.n, .string h.h.name, .string h.h.arg, .string h.h.exn, .int .i64 h.rho, .slice v.ra h.rhos.length v.rc, .slice v.ea h.e.length v.ec, .int .u8 h.ty.h.k, .int .i64 h.ty.h.r, .slice v.tea h.ty.h.e.length v.tec, .slice v.tka h.ty.ks.length v.tkc, .int .u8 h.re.h.k, .int .i64 h.re.h.r, .slice v.sea h.re.h.e.length v.sec, .slice v.ska h.re.ks.length v.skc, .slice v.ka l v.kc] 31) := ⟨_, rfl⟩
 have hbx : Box W0 W.heap.size h v l := by rw [hW0]; exact box_of (w := W) (h := h) (v := v) (l := l)
 have hb0 : Below W.heap.size W W0 := by rw [hW0]; exact box_new _
 rw [← hW0]
 clear hW0
 have HBW := Lib.hid hb0
 generalize hN0 : W.heap.size = N0 at hbx ⊢
 have HB0 := Lib.hid hb0; have HBX := Lib.hid hbx; have HRG := Lib.hid hbx.range
 obtain ⟨b0, b1, b2, b3, b4, b5, b6, b7, b8, b9, b10, b11, b12, b13, b14, b15, b16, b17, b18⟩ := hbx
 clear hb0 b0 b1 b2 b3 b4 b5 b6 b7 b8 b9 b10 b11 b12 b13 b14 b15 b16 b17 b18
 have hx0 := (HBW.out.block N (lt_of_block HA.out.box)).trans HA.out.box
 have cN : W0.cell? ⟨N, 0, none⟩ = some (.int .i64 s) := by simp [World.cell?, hx0]
 have fN : W0.frozen? ⟨N, 0, none⟩ = false := by simp [World.frozen?, hx0]
 have hne : ¬ MayP N N0 W0.heap[N0]? := fun h => by have h' : N0 = N := h; have := lt_of_block HA.out.box; omega
 have hst := HSET.out W0 hx0
 have HST := Lib.hid hst; have HNE := Lib.hid hne
 clear hx0 hst hne hN0
 go_upto_region 2 with (fail)
 generalize hW1 : W0.setCell ⟨N, 0, none⟩ (.int .i64 (s - 1)) = W1 at HST ⊢
 clear hW1 cN fN
 have hrg1 := HST.out.2.range HRG.out HNE.out
 have cN : W1.cell? ⟨N, 0, none⟩ = some (.int .i64 (s - 1)) := by simp [World.cell?, HST.out.1]
 have hb1 : Below w0.heap.size w0 W1 := HST.out.2.below (fun k O hk h => by have h' : k = N := h; have := HA.out.low; omega) (below_then HB00.out HBW.out HB00.out.size) (Nat.le_refl _)
 have HRG1 := Lib.hid hrg1; have HB1 := Lib.hid hb1
 clear hrg1 hb1
 by_cases h0 : 0 ≤ s - 1
 ·have hB := HBB.out
  rw [decide_eq_true h0, Bool.true_and] at hB
  have HB2 := Lib.hid hB
  have d0 : decide ((0 : Int) ≤ s - 1) = true := decide_eq_true h0
  clear hB
  go_wp2_with (refine at_load_g (by first | rfl | (simp [Region.wanted, yielded, Act.put, h0]; omega)) _ rfl N0 0 rfl HRG1.out ?_)
  refine (HF.out W1 HB1.out).mono ?_
  rintro e w2 ⟨rfl, hb2⟩
  have HW2 := Lib.hid hb2
  clear hb2 cN
  generalize hX : nodeB h l = X at *
  have HX := Lib.hid hX
  clear hX
  go_wp2_with (fail)
  go_ret
  refine ⟨ret_bool (by rw [HB2.out]), ⟨⟨(HW2.out.block N (lt_of_block HST.out.1)).trans HST.out.1, HA.out.low⟩, ?_, ?_⟩, ((Tch.of_below HBW.out).trans HST.out.2).trans (Tch.of_below HW2.out)⟩
  ·show s - 1 ≤ 40000
   omega
  ·show -1000000 ≤ s - 1 - r
   have := HS2.out
   omega
 ·have hB := HBB.out
  rw [decide_eq_false h0, Bool.false_and] at hB
  have HB2 := Lib.hid hB
  have d0 : decide ((0 : Int) ≤ s - 1) = false := decide_eq_false h0
  clear hB
  go_wp2_with (fail)
  go_ret
  refine ⟨ret_bool (by rw [HB2.out]), ⟨⟨HST.out.1, HA.out.low⟩, ?_, ?_⟩, (Tch.of_below HBW.out).trans HST.out.2⟩
  ·show s - 1 ≤ 40000
   omega
  ·show -1000000 ≤ s - 1 - r
   have := HS2.out
   omega
set_option maxRecDepth 10000 in
set_option maxHeartbeats 3200000 in
theorem may_walk (t : AT) (h : Hd) (v : V) (l : Nat) (w : World) (hT : AtIs w h v l t) (hw : wt t ≤ 100000) (hc : allT smallB t = true) (hkw : Words.KwLaid w) :
  Calls Tryz.prog 26 #[.agg #[.int .u8 h.h.k, .int .u8 h.h.op, .int .i64 h.h.pl, .int .i64 h.h.n, .string h.h.name, .string h.h.arg, .string h.h.exn, .int .i64 h.rho, .slice v.ra h.rhos.length v.rc, .slice v.ea h.e.length v.ec, .int .u8 h.ty.h.k, .int .i64 h.ty.h.r, .slice v.tea h.ty.h.e.length v.tec, .slice v.tka h.ty.ks.length v.tkc, .int .u8 h.re.h.k, .int .i64 h.re.h.r, .slice v.sea h.re.h.e.length v.sec, .slice v.ska h.re.ks.length v.skc, .slice v.ka l v.kc]] w fun e w' => e = .returned (.bool (mayT t)) ∧ Below w.heap.size w w' := by
 have hfo := fo_may t
 have hk1 : (foK mayB mayS [t] 40000).1 = mayT t := by
  rw [foK_cons, ← hfo]
  cases hq : (foT mayB mayS t 40000).1
  ·rw [if_neg Bool.false_ne_true]
  ·rw [if_pos rfl, foK_nil]
 have hcc : allK smallB [t] = true := by rw [allK_of1]; exact hc
 have hwt : wts [t] ≤ 100000 := by rw [wts_cons, wts_nil]; exact hw
 have HT := Lib.hid hT; have HK1 := Lib.hid hk1; have HCC := Lib.hid hcc; have HWT := Lib.hid hwt; have HKW := Lib.hid hkw
 clear hT hfo hk1 hcc hc hw hwt hkw
 go_enter Tryz.func26, Tryz.ntmps26
 go_upto_region 1 with (fail)
 obtain ⟨W0, hW0⟩ : ∃ W0, W0 = w.alloc (.cells #[.int .u8 h.h.k, .int .u8 h.h.op, .int .i64 h.h.pl, .int .i64 h.h.n, .string h.h.name, .string h.h.arg, .string h.h.exn, .int .i64 h.rho, .slice v.ra h.rhos.length v.rc, .slice v.ea h.e.length v.ec, .int .u8 h.ty.h.k, .int .i64 h.ty.h.r, .slice v.tea h.ty.h.e.length v.tec, .slice v.tka h.ty.ks.length v.tkc, .int .u8 h.re.h.k, .int .i64 h.re.h.r, .slice v.sea h.re.h.e.length v.sec, .slice v.ska h.re.ks.length v.skc, .slice v.ka l v.kc] 31) := ⟨_, rfl⟩
 have hbx : Box W0 w.heap.size h v l := by rw [hW0]; exact box_of (w := w) (h := h) (v := v) (l := l)
 have hb0 : Below w.heap.size w W0 := by rw [hW0]; exact box_new _
 rw [← hW0]
 clear hW0
 have HBW := Lib.hid hb0
 generalize hN0 : w.heap.size = N0 at hbx ⊢
 have HB0 := Lib.hid hb0; have HBX := Lib.hid hbx; have HRG := Lib.hid hbx.range
 obtain ⟨b0, b1, b2, b3, b4, b5, b6, b7, b8, b9, b10, b11, b12, b13, b14, b15, b16, b17, b18⟩ := hbx
 clear hb0 b0 b1 b2 b3 b4 b5 b6 b7 b8 b9 b10 b11 b12 b13 b14 b15 b16 b17 b18
 go_upto_region 2 with (fail)
 have hst : (W0.alloc (.cells #[.int .i64 40000] 3)).heap[W0.heap.size]? = some (.cells #[.int .i64 40000] 3 (0, 0)) := heap_alloc_new _ _
 have hb1 : Below W0.heap.size W0 (W0.alloc (.cells #[.int .i64 40000] 3)) := box_new _
 generalize hW1 : W0.alloc (.cells #[.int .i64 40000] 3) = W1 at hst hb1 ⊢
 have hsz : w.heap.size ≤ W0.heap.size := HBW.out.size
 have hrg1 := range_below HRG.out hb1
 have hbw1 := below_then HBW.out hb1 hsz
 have HST := Lib.hid hst; have HB1 := Lib.hid hb1; have HRG1 := Lib.hid hrg1; have HBW1 := Lib.hid hbw1
 clear hW1 hst hb1 hrg1 hbw1
 go_wp2_with (refine at_load rfl _ rfl N0 0 rfl HRG1.out ?_)
 refine (allMay_walk mayB mayS smallB w (MayP W0.heap.size) W0.heap.size (MayI w W0.heap.size) (MayI.goes hsz) (may1_walk w W0.heap.size HKW.out) (wts [t]) [t] _ 1 1 0 40000 _ (Nat.le_refl _) rfl (by unfold maxLen; omega)
  (fun W hW => row_one HT.out (hW.range (row_new rfl) (fun h => by have h' : W1.heap.size = W0.heap.size := h; have := lt_of_block HST.out; omega))) (below_then HBW1.out (box_new _) HBW1.out.size) HCC.out ⟨⟨((box_new _).block _ (lt_of_block HST.out)).trans HST.out, hsz⟩, by omega, by have := HWT.out; omega⟩).mono ?_
 rintro e w2 ⟨rfl, hi, ht⟩
 have hb2 : Below w.heap.size w w2 := ht.below (fun k O hk h => by have h' : k = W0.heap.size := h; omega) (below_then HBW1.out (box_new _) HBW1.out.size) (Nat.le_refl _)
 have HB2 := Lib.hid hb2
 clear hi ht hb2
 rw [HK1.out]
 generalize hX : mayT t = X at *
 have HX := Lib.hid hX
 clear hX
 go_wp2_with (fail)
 go_ret
 exact ⟨ret_bool HX.out.symm, HB2.out⟩
end Aterm
end Go.Proofs.YtkfkpjngiffamaaGreatDoor


namespace Go.Proofs.YtkfkpjngiffamaaGreatDoor
open Go.RowKit
set_option linter.unusedVariables false
set_option linter.unusedSimpArgs false
namespace Aterm
def bareH (h : Hd) : Term.Hd := if h.h.k = 18 then { h.h with k := 2 } else h.h
end Aterm
end Go.Proofs.YtkfkpjngiffamaaGreatDoor
namespace Go.Proofs.YtkfkpjngiffamaaGreatDoor
open Go.RowKit
set_option linter.unusedVariables false
namespace Term

theorem own_below {w W : World} {B e size n : Nat} {v : Value} {xs : List Value} (h : w.ownsRow B e size v n xs) (hb : Below w.heap.size w W) : W.ownsRow B e size v n xs :=
 h.kept (row := none) ⟨hb.os, hb.tape, hb.output, hb.size, fun q hq _ => hb.block q hq⟩ (by cases v.ownBlock <;> simp)

end Term
end Go.Proofs.YtkfkpjngiffamaaGreatDoor
namespace Go.Proofs.YtkfkpjngiffamaaGreatDoor
open Go.RowKit
set_option linter.unusedVariables false
namespace Term

theorem below_then {B : Nat} {a w1 w2 : World} (h : Below B a w1) (hb : Below w1.heap.size w1 w2) (hB : B ≤ w1.heap.size) : Below B a w2 := h.trans (hb.mono hB)
theorem own_slice {w : World} {base e size n : Nat} {v : Value} {xs : List Value} (h : w.ownsRow base e size v n xs) : ∃ a c, v = .slice a n c ∧ c ≤ 9223372036854775807 ∧ n ≤ c := by
 rcases h.2 with ⟨hv, h0⟩ | ⟨g, cap, _, hv, _, _, h1, h2, _⟩
 ·subst h0; exact ⟨none, 0, hv, by omega, Nat.le_refl _⟩
 ·unfold maxLen at h2; exact ⟨_, cap, hv, by omega, h1⟩
theorem own_at {w : World} {base e size n c : Nat} {a : Option Addr} {xs : List Value} (h : w.ownsRow base e size (.slice a n c) n xs) (hn : 0 < n) : ∃ g, a = some ⟨g, 0, none⟩ := by
 rcases h.2 with ⟨_, h0⟩ | ⟨g, cap, _, hv, _⟩
 ·omega
 ·injection hv with hv; exact ⟨g, hv⟩
end Term
end Go.Proofs.YtkfkpjngiffamaaGreatDoor
namespace Go.Proofs.YtkfkpjngiffamaaGreatDoor
open Go.RowKit
set_option linter.unusedVariables false
set_option linter.unusedSimpArgs false
namespace Aterm
open Effect (lt_of_block heap_alloc_new)
open Rt (box_new box_at below_then)
open Term (Tm TmIs Reads veil veil_to veil_at tcells)

def from_ (M : Nat) (i : Nat) : Bool := decide (M ≤ i)
def seen (B : Nat) (v : Value) (i : Nat) : Bool := decide (B ≤ i ∧ v.ownBlock ≠ some i)
theorem seen_iff {B : Nat} {v : Value} {i : Nat} : seen B v i = true ↔ B ≤ i ∧ v.ownBlock ≠ some i := by unfold seen; exact decide_eq_true_iff
def RowM (B : Nat) (v : Value) (ts : List Tm) (W : World) : Prop := ∃ xs, W.ownsRow B 89 8 v ts.length xs ∧ Term.Flat (veil (seen B v) W) xs ts
theorem RowM.nil (B : Nat) (W : World) : RowM B (.slice none 0 0) [] W := ⟨[], World.ownsRow_nil _ _ _ _, rfl⟩
theorem RowM.below {B : Nat} {v : Value} {ts : List Tm} {W W' : World} (h : RowM B v ts W) (hb : Below W.heap.size W W') : RowM B v ts W' := by
 obtain ⟨xs, h1, h2⟩ := h
 exact ⟨xs, own_below h1 hb, h2.reads (veil_to fun b hbl hp => ⟨hp, hb.block b hbl⟩)⟩
theorem own_cap {w : World} {base e size n : Nat} {v : Value} {xs : List Value} (h : w.ownsRow base e size v n xs) : ∃ a c, v = .slice a n c ∧ c ≤ maxLen ∧ n ≤ c := by
 rcases h.2 with ⟨hv, h0⟩ | ⟨g, cap, _, hv, _, _, h1, h2, _⟩
 ·subst h0; exact ⟨none, 0, hv, by unfold maxLen; omega, Nat.le_refl _⟩
 ·exact ⟨_, cap, hv, h2, h1⟩
theorem RowM.kids {B : Nat} {a : Option Addr} {c : Nat} {ts : List Tm} {W : World} (h : RowM B (.slice a ts.length c) ts W) : Term.Kids (veil (from_ B) W) a ts := by
 obtain ⟨xs, h1, h2⟩ := h
 by_cases h0 : ts.length = 0
 ·rw [List.length_eq_zero_iff.1 h0]; exact .nokids _
 ·have hat : ∃ g, a = some ⟨g, 0, none⟩ ∧ B ≤ g := by
   rcases h1.2 with ⟨_, h0'⟩ | ⟨g, cap, _, hv, hg, _⟩
   ·omega
   ·injection hv with hv; exact ⟨g, hv, hg⟩
  obtain ⟨g, rfl, hg⟩ := hat
  have hin : Reads (veil (seen B (.slice (some ⟨g, 0, none⟩) ts.length c)) W) (veil (from_ B) W) := veil_to fun b hb hp => ⟨decide_eq_true (seen_iff.1 hp).1, rfl⟩
  refine Term.kids_of_flat (fun j u hu => ?_) (h2.reads hin)
  have hc := h1.cells (g := g) rfl j u hu
  rw [Addr.add_lit, Nat.zero_add] at hc
  rw [World.cell?_of_block (veil_at (decide_eq_true hg))]
  exact hc
theorem RowM.off {B : Nat} {v : Value} {ts : List Tm} {W W' : World} (h : RowM B v ts W) (hb : ∀ b, B ≤ b → W'.heap[b]? = W.heap[b]?) : RowM B v ts W' := by
 obtain ⟨xs, h1, h2⟩ := h
 refine ⟨xs, ⟨h1.1, h1.2.imp id ?_⟩, h2.reads (veil_to fun b hbl hp => ⟨hp, hb b (seen_iff.1 hp).1⟩)⟩
 rintro ⟨g, cap, cur, rfl, hg, hh, r⟩
 exact ⟨g, cap, cur, rfl, hg, (hb g hg).trans hh, r⟩

structure EraseAt (w : World) (h : Hd) (v : V) (l : Nat) (us : List Tm) (j : Nat) (a : Option Addr) (c0 : Nat) (W : World) : Prop where
 below : Below w.heap.size w W
 box : W.heap[w.heap.size]? = some (.cells #[.int .u8 h.h.k, .int .u8 h.h.op, .int .i64 h.h.pl, .int .i64 h.h.n, .string h.h.name, .string h.h.arg, .string h.h.exn, .int .i64 h.rho, .slice v.ra h.rhos.length v.rc, .slice v.ea h.e.length v.ec, .int .u8 h.ty.h.k, .int .i64 h.ty.h.r, .slice v.tea h.ty.h.e.length v.tec, .slice v.tka h.ty.ks.length v.tkc, .int .u8 h.re.h.k, .int .i64 h.re.h.r, .slice v.sea h.re.h.e.length v.sec, .slice v.ska h.re.ks.length v.skc, .slice v.ka l v.kc] 31 (0, 0))
 res : W.heap[w.heap.size + 1]? = some (.cells #[.int .u8 0, .int .u8 0, .int .i64 0, .int .i64 0, .string ⟨#[]⟩, .string ⟨#[]⟩, .string ⟨#[]⟩, .slice none 0 0] 89 (0, 0))
 out : W.heap[w.heap.size + 2]? = some (.cells #[.int .u8 (bareH h).k, .int .u8 h.h.op, .int .i64 h.h.pl, .int .i64 h.h.n, .string h.h.name, .string h.h.arg, .string h.h.exn, .slice a j c0] 89 (0, 0))
 row : RowM (w.heap.size + 3) (.slice a j c0) us W
 len : us.length = j
theorem box_blk {W : World} {N : Nat} {h : Hd} {v : V} {l : Nat} {ty : TypeId} (hb : W.heap[N]? = some (.cells #[.int .u8 h.h.k, .int .u8 h.h.op, .int .i64 h.h.pl, .int .i64 h.h.n, .string h.h.name, .string h.h.arg, .string h.h.exn, .int .i64 h.rho, .slice v.ra h.rhos.length v.rc, .slice v.ea h.e.length v.ec, .int .u8 h.ty.h.k, .int .i64 h.ty.h.r, .slice v.tea h.ty.h.e.length v.tec, .slice v.tka h.ty.ks.length v.tkc, .int .u8 h.re.h.k, .int .i64 h.re.h.r, .slice v.sea h.re.h.e.length v.sec, .slice v.ska h.re.ks.length v.skc, .slice v.ka l v.kc] ty (0, 0))) : Box W N h v l := by
 unfold Box
 simp [World.cell?, hb]
theorem exec_at {op : Oper} {a : Act} {w : World} (x : Operand) (ho : op.op = .load 31 x) (b o : Nat) (hx : a.eval x = .pointer (some ⟨b, o, none⟩)) {h : Hd} {v : V} {l : Nat} (hr : w.rangeAt b o (acells h v l)) : (execOp a.eval op).run Tryz.prog w = .ok (.value (.agg #[.int .u8 h.h.k, .int .u8 h.h.op, .int .i64 h.h.pl, .int .i64 h.h.n, .string h.h.name, .string h.h.arg, .string h.h.exn, .int .i64 h.rho, .slice v.ra h.rhos.length v.rc, .slice v.ea h.e.length v.ec, .int .u8 h.ty.h.k, .int .i64 h.ty.h.r, .slice v.tea h.ty.h.e.length v.tec, .slice v.tka h.ty.ks.length v.tkc, .int .u8 h.re.h.k, .int .i64 h.re.h.r, .slice v.sea h.re.h.e.length v.sec, .slice v.ska h.re.ks.length v.skc, .slice v.ka l v.kc])) w := by
 unfold execOp
 simp only [ho, hx, Instr.loadAt, Instr.sureAddr, Sem.run_bind, Sem.run_pure, Result.andThen_ok, run_loadVar_mid w b o 31 (acells h v l) _ hr Tryz.underlying31 rfl atInfo]
theorem told_of {a0 : Option Addr} {j c0 n cap gg : Nat} {w2 : World} {O : Obj} (h : (Value.slice a0 j c0).ownBlock = some gg ∨ gg = w2.heap.size + 1) : (Value.slice (some ⟨gg, 0, none⟩) n cap).ownBlock = (Value.slice a0 j c0).ownBlock ∨ (Value.slice (some ⟨gg, 0, none⟩) n cap).ownBlock = some (w2.alloc O).heap.size := by
 rcases h with h | h
 ·exact .inl (by rw [h]; rfl)
 ·exact .inr (by rw [h]; simp [Value.ownBlock])
theorem undrew' {B : Nat} {w w2 : World} (h : Below B w.drew w2) : Below B w w2 := ⟨h.os, h.tape, h.output, h.size, h.block⟩
end Aterm
end Go.Proofs.YtkfkpjngiffamaaGreatDoor

