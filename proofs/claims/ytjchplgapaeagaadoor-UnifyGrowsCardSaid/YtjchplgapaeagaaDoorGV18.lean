/-The program's fits: has a type's sense no more than so many nodes? (Written by wip/tools/unfits.py.) -/
import Derived.Test.YtjchplgapaeagaaDoorGV13
import Derived.Test.YtjchplgapaeagaaDoorGV15
import Derived.Test.YtjchplgapaeagaaDoorGV16
import Derived.Test.YtjchplgapaeagaaDoorGV17
namespace Go.Proofs.YtjchplgapaeagaaDoor
open Go.RowKit Go.Shelf
set_option linter.unusedVariables false
set_option linter.unusedSimpArgs false
attribute [local go_sem] Oper.semAt_some
namespace Types

theorem at_more {W : World} {b : Nat} {O O' : Obj} (h : W.heap[b]? = some O) : (W.alloc O').heap[b]? = some O := (Below.heap_alloc _ _ b (lt_of_block h)).trans h
theorem at_new {W : World} {b : Nat} {O : Obj} (h : b = W.heap.size) : (W.alloc O).heap[b]? = some O := by subst h; exact heap_alloc_new W O
/-- The rounds' state. -/
structure FtI (P : Nat → Bool) (k : Bk) (n : Nat) (g : Nat → Bool) (nm : Nat → Nat) (st : Nat → Option Ty) (σ : Nat → Ty) (most : Int) (S : Nat) (f : Nat → Pk 1000000000) (len : Nat) (h : Hd) (p : Option Addr) (l c : Nat) (w : World) (pre : List (Pk 1000000000)) (W : World) : Prop where
  b0 : W.heap[w.heap.size]? = some (.cells #[.pointer (some ⟨k.b, 0, none⟩)] 28 (0, 0))
  b1 : W.heap[w.heap.size + 1]? = some (.cells #[.int .u8 h.k, .int .i64 h.v, .slice p l c] 25 (0, 0))
  b2 : W.heap[w.heap.size + 2]? = some (.cells #[.int .i64 most] 3 (0, 0))
  b3 : W.heap[w.heap.size + 3]? = some (.cells #[.bool false] 4 (0, 0))
  b4 : W.heap[S + 1]? = some (.cells #[.map (some S)] 90 (0, 0))
  book : ∃ e', TBk P W k none n e' g ∧ Rep e' nm st
  map : ∃ F sz, MapAt W S F ∧ (∀ i, HasZ F sz i) ∧ (∀ i, F i ≠ none → i < 1000000000) ∧ ((∃ m, m ≤ len ∧ pre = back f len m) → ∀ x ∈ pre, sz x.v = (wt (σ x.v) : Int) ∧ (wt (σ x.v) : Int) ≤ most)
  kp : Kp (fun b => decide (b ≠ k.s)) w W
  low : (k.b < w.heap.size ∧ k.s < w.heap.size ∧ k.i < w.heap.size) ∧ w.heap.size + 5 ≤ S ∧ S + 3 ≤ W.heap.size
theorem FtI.below {P : Nat → Bool} {k : Bk} {n : Nat} {g : Nat → Bool} {nm : Nat → Nat} {st : Nat → Option Ty} {σ : Nat → Ty} {most : Int} {S : Nat} {f : Nat → Pk 1000000000} {len : Nat} {h : Hd} {p : Option Addr} {l c : Nat} {w : World} {pre : List (Pk 1000000000)} {X Y : World} (hP : ∀ b, w.heap.size ≤ b → P b = false) (hI : FtI P k n g nm st σ most S f len h p l c w pre X) (hb : Below (S + 3) X Y) : FtI P k n g nm st σ most S f len h p l c w pre Y := by
  obtain ⟨h1, h2, h3⟩ := hI.low
  obtain ⟨e', k1, k2⟩ := hI.book
  obtain ⟨F, sz, m1, m2⟩ := hI.map
  have hb0 : Below w.heap.size X Y := hb.mono (by omega)
  exact ⟨(hb.block _ (by omega)).trans hI.b0, (hb.block _ (by omega)).trans hI.b1, (hb.block _ (by omega)).trans hI.b2, (hb.block _ (by omega)).trans hI.b3, (hb.block _ (by omega)).trans hI.b4, ⟨e', k1.low hb0 hP h1 (fun x hx => by cases hx), k2⟩, ⟨F, sz, m1.of_block (hb.block _ (by omega)), m2⟩, hI.kp.low hb0, h1, h2, Nat.le_trans h3 hb.size⟩
theorem FtI.own {P : Nat → Bool} {k : Bk} {n : Nat} {g : Nat → Bool} {nm : Nat → Nat} {st : Nat → Option Ty} {σ : Nat → Ty} {most : Int} {S : Nat} {f : Nat → Pk 1000000000} {len : Nat} {h : Hd} {p : Option Addr} {l c : Nat} {w : World} (hP : ∀ b, w.heap.size ≤ b → P b = false) : OwnFrom (S + 3) (FtI P k n g nm st σ most S f len h p l c w) := by
  rintro pre X Y row hI hg hr
  exact hI.below hP ⟨hg.os, hg.tape, hg.output, hg.size, fun b hb => hg.block b (Nat.lt_of_lt_of_le hb hI.low.2.2) fun e => by have := (hr b e.symm).1; omega⟩
/-- What a round keeps. -/
def qF (S s b : Nat) : Bool := decide (b < S + 3 ∧ b ≠ s ∧ b ≠ S)
theorem qF_put {S s : Nat} {B : Nat} (hB : S + 3 ≤ B) (W : World) (l : Nat) (o o' : Obj) (hl : B ≤ l) (h : W.heap[l]? = some o) (_ : o.isCells = false) (_ : o.isWalk = false) : Kp (qF S s) W (W.putObj l o') :=
  ⟨(grownBy_putObj' W l o').os, (grownBy_putObj' W l o').tape, (grownBy_putObj' W l o').output, (grownBy_putObj' W l o').size, fun b hb hp => (grownBy_putObj' W l o').block b hb (fun e => by injection e with e; have := (of_decide_eq_true hp).1; omega)⟩
/-- .. where one ends it. -/
def FtX (P : Nat → Bool) (k : Bk) (n : Nat) (g : Nat → Bool) (nm : Nat → Nat) (st : Nat → Option Ty) (most : Int) (sw S : Nat) (f : Nat → Pk 1000000000) (len : Nat) (w : World) (c : Code) (pre : List (Pk 1000000000)) (W : World) : Prop :=
  c = .ret ∧ W.heap[w.heap.size + 3]? = some (.cells #[.bool false] 4 (0, 0)) ∧ (∃ e', TBk P W k none n e' g ∧ Rep e' nm st) ∧ Kp (fun b => decide (b ≠ k.s)) w W ∧ ((k.b < w.heap.size ∧ k.s < w.heap.size ∧ k.i < w.heap.size) ∧ w.heap.size + 5 ≤ S ∧ S + 3 ≤ W.heap.size) ∧ ((∃ m, m ≤ len ∧ pre = back f len m) → most < (sw : Int))
theorem FtX.own {P : Nat → Bool} {k : Bk} {n : Nat} {g : Nat → Bool} {nm : Nat → Nat} {st : Nat → Option Ty} {most : Int} {sw S : Nat} {f : Nat → Pk 1000000000} {len : Nat} {w : World} (hP : ∀ b, w.heap.size ≤ b → P b = false) (c : Code) : OwnFrom (S + 3) (FtX P k n g nm st most sw S f len w c) := by
  rintro pre X Y row ⟨h0, h1, ⟨e', k1, k2⟩, h3, ⟨l1, l2, l3⟩, h5⟩ hg hr
  have hb : Below (S + 3) X Y := ⟨hg.os, hg.tape, hg.output, hg.size, fun b hb => hg.block b (Nat.lt_of_lt_of_le hb l3) fun e => by have := (hr b e.symm).1; omega⟩
  have hb0 : Below w.heap.size X Y := hb.mono (by omega)
  exact ⟨h0, (hb.block _ (by omega)).trans h1, ⟨e', k1.low hb0 hP l1 (fun x hx => by cases hx), k2⟩, h3.low hb0, ⟨l1, l2, Nat.le_trans l3 hb.size⟩, h5⟩
theorem mem_back {α : Type} {f : Nat → α} {n m i : Nat} (hm : m ≤ n) (h1 : n - m ≤ i) (h2 : i < n) : f i ∈ back f n m := by
  unfold back
  exact List.mem_map.2 ⟨n - 1 - i, List.mem_range.2 (by omega), by rw [show n - 1 - (n - 1 - i) = i by omega]⟩
theorem fold_in {nm : Nat → Nat} {sz : Nat → Int} : ∀ (l : List Int) (a : Int), -9223372036854775808 ≤ a ∧ a ≤ 9223372036854775807 → -9223372036854775808 ≤ l.foldl (leftS nm sz) a ∧ l.foldl (leftS nm sz) a ≤ 9223372036854775807
  | [], a, h => h
  | v :: l, a, h => by
    rw [List.foldl_cons]
    refine fold_in l _ ?_
    unfold leftS
    split
    · exact wrap_in _
    · exact h
/-- One name more. -/
theorem ft_math {n : Nat} {nm : Nat → Nat} {st : Nat → Option Ty} {g : Nat → Bool} {r : Nat → Nat} (hb : Bo n nm st g r) {R : Nat → Prop} {l ord : List Nat} (hO : Ord n nm st R l ord) {f : Nat → Pk 1000000000} (hf : ∀ j, (hj : j < ord.length) → (f j).i = j ∧ (f j).v = ord[j]) {m : Nat} (hm : m < ord.length) {e : Nat → Option Ty} (hR : Rep e nm st) {sz : Nat → Int} {most : Int} (h0 : 0 ≤ most) (hmo : most ≤ 9223372036854775807)
    (hpre : ∀ x ∈ back f ord.length m, sz x.v = (wt (senB n nm st r x.v) : Int) ∧ (wt (senB n nm st r x.v) : Int) ≤ most) {v : Nat} (hv : v = (f (ord.length - 1 - m)).v) {z : Int} (hz : z = ((varsT (tyO (e v))).map fun v => ((v : Nat) : Int)).foldl (leftS nm sz) (most - (wt (tyO (e v)) : Nat))) :
    R v ∧ (z < 0 → most < (wt (senB n nm st r v) : Int)) ∧ (0 ≤ z → most - z = (wt (senB n nm st r v) : Int) ∧ (wt (senB n nm st r v) : Int) ≤ most) := by
  have hj : ord.length - 1 - m < ord.length := by omega
  obtain ⟨-, hvj⟩ := hf _ hj
  rw [hvj] at hv
  have hmem : v ∈ ord := by rw [hv]; exact List.getElem_mem hj
  obtain ⟨hnv, hvn, hRv⟩ := hO.mem v hmem
  refine ⟨hRv, ?_⟩
  have he : e v = st v := hR.at hnv
  rw [he] at hz
  cases hs : st v with
  | none =>
    rw [hs] at hz
    have e1 : senB n nm st r v = tyV v := hb.sen_open hnv hs
    have w1 : wt (tyV v) = 1 := by rw [wt_ks]; show wts [] + 1 = 1; rw [wts_nil]
    have w2 : wt (tyO none) = 1 := by show wt zTy = 1; unfold zTy; rw [wt_ks]; show wts [] + 1 = 1; rw [wts_nil]
    rw [w2] at hz
    have hz : z = most - (1 : Nat) := hz
    rw [e1, w1]
    exact ⟨fun h => by omega, fun h => ⟨by omega, by omega⟩⟩
  | some t =>
    rw [hs] at hz
    obtain ⟨-, hmt, h5, hvt⟩ := hb.name v t hs
    have e1 : senB n nm st r v = inst (senB n nm st r) t := hb.isSen.is.2 _ _ hs
    have hk : ∀ y ∈ varsT t, sz (nm y) = (wt (senB n nm st r y) : Int) ∧ wt (senB n nm st r y) ≤ 9223372036854775807 := fun y hy => by
      have hc : nm y ∈ namesN nm st v := by unfold namesN; rw [hs]; exact List.mem_map.2 ⟨y, hy, rfl⟩
      have hco := hO.cl v hmem _ hc
      obtain ⟨i, hi, hiv⟩ := List.mem_iff_getElem.1 hco
      have htop := hO.top i (nm y) (by rw [List.getElem?_eq_getElem hi, hiv]) v hmem hc
      obtain ⟨j, hj2, hjv⟩ := List.mem_iff_getElem.1 htop
      rw [List.length_take] at hj2
      rw [List.getElem_take] at hjv
      have hji : j = ord.length - 1 - m := (List.getElem_inj hO.nd).1 (hjv.trans hv)
      have h1 := hpre (f i) (mem_back (by omega) (by omega) hi)
      rw [(hf i hi).2, hiv, ← hb.sen_nm y] at h1
      exact ⟨h1.1, by omega⟩
    have h3 := left_fits (θ := senB n nm st r) hmt most hmo hk
    have hz : z = ((varsT t).map fun v => ((v : Nat) : Int)).foldl (leftS nm sz) (most - (wt t : Nat)) := hz
    rw [← hz, ← e1] at h3
    rcases Int.lt_or_le most (wt (senB n nm st r v) : Int) with h4 | h4
    · have := h3.2 h4
      exact ⟨fun _ => h4, fun h => by omega⟩
    · have := h3.1 h4
      exact ⟨fun h => by omega, fun h => ⟨by omega, h4⟩⟩
def FtEnd (P : Nat → Bool) (k : Bk) (n : Nat) (g : Nat → Bool) (nm : Nat → Nat) (st : Nat → Option Ty) (sz : Nat) (most : Int) (w : World) (en : Ending) (w' : World) : Prop :=
  en = .returned (.bool (decide ((sz : Int) ≤ most))) ∧ (∃ e', TBk P w' k none n e' g ∧ Rep e' nm st) ∧ Kp (fun b => decide (b ≠ k.s)) w w'
set_option maxRecDepth 100000 in
set_option maxHeartbeats 12800000 in
theorem ufits_walk (P : Nat → Bool) (k : Bk) (n : Nat) (e : Nat → Option Ty) (g : Nat → Bool) (nm : Nat → Nat) (st : Nat → Option Ty) (r : Nat → Nat) (h : Hd) (p : Option Addr) (l c : Nat) (t : Ty) (most : Int) (w : World)
    (hT : TBk P w k none n e g) (hR : Rep e nm st) (hb : Bo n nm st g r) (hTy : TyIs (veil P w) h p l c t) (hm : mayT t = true) (hv : ∀ v ∈ varsT t, v < n) (hP : ∀ b, w.heap.size ≤ b → P b = false) (hn : n < 1000000000) (hwt : wt t ≤ 1000000) (hws : ∀ v t, st v = some t → wt t ≤ 1000000) (hoc : sumN n (fun p => (namesN nm st p).length) ≤ 2000000000000000000) (hmo : -9223372036854775808 ≤ most ∧ most ≤ 9223372036854775807) :
    Calls Tryd.prog 37 #[.pointer (some ⟨k.b, 0, none⟩), .agg #[.int .u8 h.k, .int .i64 h.v, .slice p l c], .int .i64 most] w (FtEnd P k n g nm st (wt (inst (senB n nm st r) t)) most w) := by
  have hlow := hT.all_low.1
  have hev : evK [t] = (varsT t).map fun v => ((v : Nat) : Int) := by
    rw [evK_cons, evK_nil, List.append_nil, ev_vars t hm]
  have hvl : (varsT t).length < 1000000000 := by have := (vars_few1 t hm).1; omega
  obtain ⟨W5, hW5⟩ : ∃ W5, W5 = ((((w.alloc (.cells #[.pointer (some ⟨k.b, 0, none⟩)] 28)).alloc (.cells #[.int .u8 h.k, .int .i64 h.v, .slice p l c] 25)).alloc (.cells #[.int .i64 most] 3)).alloc (.cells #[.bool false] 4)).alloc (.cells #[.slice none 0 0] 31) := ⟨_, rfl⟩
  have hz5 : W5.heap.size = w.heap.size + 5 := by rw [hW5]; simp
  have hb5 : Below w.heap.size w W5 := by rw [hW5]; exact ((((al_new _).alloc (by simp) _).alloc (by simp; omega) _).alloc (by simp; omega) _).alloc (by simp; omega) _
  obtain ⟨b0, b1, b2, b3, b4⟩ : W5.heap[w.heap.size]? = some (.cells #[.pointer (some ⟨k.b, 0, none⟩)] 28 (0, 0)) ∧ W5.heap[w.heap.size + 1]? = some (.cells #[.int .u8 h.k, .int .i64 h.v, .slice p l c] 25 (0, 0)) ∧ W5.heap[w.heap.size + 2]? = some (.cells #[.int .i64 most] 3 (0, 0)) ∧ W5.heap[w.heap.size + 3]? = some (.cells #[.bool false] 4 (0, 0)) ∧ W5.heap[w.heap.size + 4]? = some (.cells #[.slice none 0 0] 31 (0, 0)) := by
    rw [hW5]
    exact ⟨at_more (at_more (at_more (at_more (at_new rfl)))), at_more (at_more (at_more (at_new (by simp)))), at_more (at_more (at_new (by simp))), at_more (at_new (by simp)), at_new (by simp)⟩
  have hrow0 : RowV (w.heap.size + 5) (w.heap.size + 4) [] W5 := ⟨⟨none, 0, b4, World.ownsRow_nil _ _ _ _⟩, by omega, by omega⟩
  have hty5 := (Kp.of_below (P := P) hb5).ty hTy
  have hro : rowOf W5 (w.heap.size + 4) = none := rowOf_eq b4
  have hfe := fits_each hrow0 hty5 (fun b hb => ⟨fun e => (by rw [hP b (by omega)] at hb; cases hb), by rw [hro]; exact fun e => by cases e⟩) (by rw [hev, List.length_map]; show 0 + _ < _; omega)
  rw [hro, hev, List.nil_append, hz5] at hfe
  refine (callsIn_wide (n := 10)).1 ?_
  refine callsIn_of_wp_marks Tryd.func37 rfl trivial ?_ rfl
  simp only [Tryd.ntmps37, List.size_toArray, List.length_cons, List.length_nil, Nat.reduceAdd, Nat.reduceSub, Array.replicate_succ, Array.replicate_zero, List.push_toArray, List.append_toArray, List.nil_append, List.cons_append]
  have HT := Lib.hid hT; have HR := Lib.hid hR; have HB := Lib.hid hb; have HTY := Lib.hid hTy; have HM := Lib.hid hm; have HV := Lib.hid hv; have HP := Lib.hid hP; have HN := Lib.hid hn; have HWT := Lib.hid hwt; have HWS := Lib.hid hws; have HOC := Lib.hid hoc; have HMO := Lib.hid hmo
  have HFE := Lib.hid hfe; have HB5 := Lib.hid hb5; have HZ5 := Lib.hid hz5; have HX := Lib.hid (And.intro b0 (And.intro b1 (And.intro b2 b3))); have HW5 := Lib.hid hW5; have HLOW := Lib.hid hlow; have HVL := Lib.hid hvl
  clear hT hR hb hTy hm hv hP hn hwt hws hoc hmo hfe hb5 hz5 b0 b1 b2 b3 b4 hW5 hrow0 hty5 hro hev hlow hvl
  gi_wp2_with (fail)
  refine ⟨trivial, ?_⟩
  have hfe := HFE.out
  rw [HW5.out] at hfe
  refine (callsIn_wide.2 hfe).mono ?_
  rintro en w6 ⟨rfl, hrow6, hk6⟩
  obtain ⟨a6, c6, hx4, hown6⟩ := hrow6.row
  rw [List.length_map] at hx4 hown6
  rw [← HW5.out] at hk6
  have hk6 : Kp (fun b => decide (b ≠ w.heap.size + 4)) W5 w6 := hk6.mono fun b hb => decide_eq_true ⟨of_decide_eq_true hb, fun e => by cases e⟩
  have hx : w6.heap[w.heap.size]? = some (.cells #[.pointer (some ⟨k.b, 0, none⟩)] 28 (0, 0)) ∧ w6.heap[w.heap.size + 1]? = some (.cells #[.int .u8 h.k, .int .i64 h.v, .slice p l c] 25 (0, 0)) ∧ w6.heap[w.heap.size + 2]? = some (.cells #[.int .i64 most] 3 (0, 0)) ∧ w6.heap[w.heap.size + 3]? = some (.cells #[.bool false] 4 (0, 0)) := by
    have hz := HZ5.out
    obtain ⟨b0, b1, b2, b3⟩ := HX.out
    exact ⟨(hk6.block _ (by omega) (ne_true (by omega))).trans b0, (hk6.block _ (by omega) (ne_true (by omega))).trans b1, (hk6.block _ (by omega) (ne_true (by omega))).trans b2, (hk6.block _ (by omega) (ne_true (by omega))).trans b3⟩
  obtain ⟨q0, -, ql0⟩ := c1 hx.1
  obtain ⟨q2, -, ql2⟩ := c1 hx.2.2.1
  obtain ⟨q4, -, ql4⟩ := c1 hx4
  have ql3 := lt_of_block hx.2.2.2
  have HX6 := Lib.hid hx; have HK6 := Lib.hid hk6; have HO6 := Lib.hid hown6; have HX4 := Lib.hid hx4
  clear hfe hrow6 hx4 hown6 hk6 hx HFE
  gi_wp2_with (fail)
  obtain ⟨L, hL1, hL2, hL3, hL4⟩ := HB.out.reachT HM.out HV.out
  have hbk6 : TBk P w6 k none n e g := (HT.out.below HB5.out).kept HK6.out (fun b hb => decide_eq_true fun e => by subst e; rw [HP.out _ (by omega)] at hb; cases hb) ⟨decide_eq_true (by have := HLOW.out; omega), decide_eq_true (by have := HLOW.out; omega), decide_eq_true (by have := HLOW.out; omega)⟩ (fun x hx => by cases hx)
  have hz6 : w.heap.size + 5 ≤ w6.heap.size := by have := HK6.out.size; have := HZ5.out; omega
  have hws := within_walk P k none n e g nm st (fun x => x ∈ L) most (varsT t) a6 c6 (w.heap.size + 5) w6 hbk6 (by rw [cmb_none]; exact HR.out) (fun v t' hs => ⟨(HB.out.name v t' hs).2.1, (HB.out.name v t' hs).2.2.2⟩) (fun b hb => HP.out b (by omega)) HN.out HO6.out (fun e => by have := (own_row_lt HO6.out e).2; have := HLOW.out; omega) (by have := HVL.out; omega) (fun x hx => ⟨HV.out x hx, hL1 x hx⟩) hL4 HOC.out HMO.out
  have HWI := Lib.hid hws; have HL := Lib.hid (And.intro hL2 hL3); have HZ6 := Lib.hid hz6; have HT6 := Lib.hid hbk6
  clear hL1 hL2 hL3 hL4 hbk6 hz6 hws
  refine ⟨trivial, ?_⟩
  refine (callsIn_wide.2 HWI.out).mono ?_
  rintro en w7 ⟨⟨e7, hT7, hR7⟩, hk7, ho⟩
  rw [cmb_none] at hR7
  have HT7 := Lib.hid hT7; have HR7 := Lib.hid hR7; have HK7 := Lib.hid hk7
  have hx7 : w7.heap[w.heap.size + 3]? = some (.cells #[.bool false] 4 (0, 0)) := (hk7.block _ ql3 (ne_true (by have := HLOW.out; omega))).trans HX6.out.2.2.2
  obtain ⟨z0, zf, zl⟩ := c1 hx7
  have HX7 := Lib.hid hx7
  have HKW := Lib.hid (show Kp (fun b => decide (b ≠ k.s)) w w7 from ⟨hk7.os.trans (HK6.out.os.trans HB5.out.os), hk7.tape.trans (HK6.out.tape.trans HB5.out.tape), hk7.output.trans (HK6.out.output.trans HB5.out.output), by have := hk7.size; have := HZ6.out; omega, fun b hb hp => (hk7.block b (by have := HZ6.out; omega) hp).trans ((HK6.out.block b (by have := HZ5.out; omega) (decide_eq_true (by omega))).trans (HB5.out.block b hb))⟩)
  clear hT7 hR7 hk7 hx7 HWI
  rcases ho with ⟨a7, c7, ord, rfl, hown7, hord, hle⟩ | ⟨v7, rfl, hno⟩
  rotate_left
  · have hbig : most < (wt (inst (senB n nm st r) t) : Int) := by
      rcases hno with ⟨met, hm1, hm2, hm3⟩ | ⟨Z, hz1, hz2, hz3⟩
      · have h1 := nodup_sub hm1 (fun x hx => (hm2 x hx).2.2)
        have h2 := HL.out.1
        omega
      · exact (HB.out.no_circle hz1 hz3).elim
    have HBIG := Lib.hid hbig
    clear hbig hno
    gi_wp2_with (fail)
    have hset := set1 HX7.out (.bool false)
    have hbl : Below w.heap.size w7 (w7.setCell ⟨w.heap.size + 3, 0, none⟩ (.bool false)) := (Below.refl _ _).setCell (p := ⟨w.heap.size + 3, 0, none⟩) (by show _ ≤ w.heap.size + 3; omega) _
    clear z0 zf zl
    obtain ⟨z0, -, zl⟩ := c1 hset
    refine ⟨.bool false, ?_, by rw [decide_eq_false (by have := HBIG.out; omega)], ⟨e7, HT7.out.low hbl HP.out HLOW.out (fun x hx => by cases hx), HR7.out⟩, HKW.out.low hbl⟩
    simp [results, Tryd.f37, go_sem, z0, zl]
  · have hmm := @run_makeMap Tryd.prog
    have HO7 := Lib.hid hown7; have HORD := Lib.hid hord; have HLE := Lib.hid hle
    clear hown7 hord hle z0 zf
    gi_wp2_with (fail)
    refine ⟨trivial, ?_⟩
    refine (callsIn_wide.2 (backward_walk _ _ _ _)).mono ?_
    rintro en w8 ⟨rfl, rfl⟩
    gi_wp2_with (fail)
    obtain ⟨σ, hσ⟩ : ∃ σ, σ = senB n nm st r := ⟨_, rfl⟩
    obtain ⟨S, hS⟩ : ∃ S, w7.heap.size = S := ⟨_, rfl⟩
    obtain ⟨Wl, hWl⟩ : ∃ Wl, ((w7.alloc (.map #[] 0)).alloc (.cells #[.map (some w7.heap.size)] 90)).alloc (.cells #[.slice a7 ord.length c7] 31) = Wl := ⟨_, rfl⟩
    have hWb : Below w7.heap.size w7 Wl := by rw [← hWl]; exact ((al_new _).alloc (by simp) _).alloc (by simp; omega) _
    have hWs : Wl.heap.size = S + 3 := by rw [← hWl, ← hS]; simp
    have hm0 : Wl.heap[S]? = some (.map #[] 0) := by rw [← hWl]; exact at_more (at_more (at_new hS.symm))
    have hm1 : Wl.heap[S + 1]? = some (.cells #[.map (some S)] 90 (0, 0)) := by rw [← hWl, hS]; exact at_more (at_new (by simp [hS]))
    have hm2 : Wl.heap[S + 2]? = some (.cells #[.slice a7 ord.length c7] 31 (0, 0)) := by rw [← hWl]; exact at_new (by simp [hS])
    have hmap : MapAt Wl S fun _ => none := by
      have h1 := MapAt.new w7
      rw [hS] at h1
      exact h1.of_block (hm0.trans (by rw [← hS]; exact (heap_alloc_new w7 (.map #[] 0)).symm))
    rw [hWl, hS]
    have hnl : ord.length ≤ n := nodup_few HORD.out.nd fun x hx => (HORD.out.mem x hx).2.1
    have hnn := HN.out
    obtain ⟨f, hf⟩ : ∃ f : Nat → Pk 1000000000, ∀ j, (hj : j < ord.length) → (f j).i = j ∧ (f j).v = ord[j] := by
      have each : ∀ j, ∃ x : Pk 1000000000, (hj : j < ord.length) → x.i = j ∧ x.v = ord[j] := fun j => by
        by_cases hj : j < ord.length
        · exact ⟨⟨j, ord[j], by have := (HORD.out.mem ord[j] (List.getElem_mem hj)).2.1; omega⟩, fun _ => ⟨rfl, rfl⟩⟩
        · exact ⟨⟨0, 0, by omega⟩, fun h => absurd h hj⟩
      exact Classical.axiomOfChoice each
    have hb3 : ∀ b, b < w7.heap.size → Wl.heap[b]? = w7.heap[b]? := fun b hb => hWb.block b hb
    have hs67 : w6.heap.size ≤ S := by rw [← hS]; exact HK7.out.size
    have hz6 := HZ6.out
    have hX6 := HX6.out
    have hlow := HLOW.out
    have h67 : ∀ b, b < w6.heap.size → b ≠ k.s → Wl.heap[b]? = w6.heap[b]? := fun b hb hp => (hb3 b (by omega)).trans (HK7.out.block b hb (ne_true hp))
    have hI0 : FtI P k n g nm st σ most S f ord.length h p l c w [] Wl := ⟨(h67 _ (by omega) (by omega)).trans hX6.1, (h67 _ (by omega) (by omega)).trans hX6.2.1, (h67 _ (by omega) (by omega)).trans hX6.2.2.1, (h67 _ (by omega) (by omega)).trans hX6.2.2.2, hm1, ⟨e7, HT7.out.below hWb, HR7.out⟩, ⟨_, fun _ => 0, hmap, fun i => .inr ⟨rfl, rfl⟩, fun i h => absurd rfl h, fun _ x hx => by cases hx⟩, HKW.out.trans (Kp.of_below hWb), hlow, by omega, by omega⟩
    have hbs : Wl.cell? ⟨S + 2, 0, none⟩ = some (.slice a7 ord.length c7) := (c1 hm2).1
    have hC : ∀ j, j < ord.length → ∃ g, a7 = some ⟨g, 0, none⟩ ∧ qF S k.s g = true ∧ Wl.cell? ⟨g, j, none⟩ = some (.int .i64 ((f j).v : Int)) := fun j hj => by
      obtain ⟨gb, rfl, hgb⟩ := own_at HO7.out (by omega)
      have hlt := own_row_lt HO7.out (b := gb) rfl
      refine ⟨gb, rfl, decide_eq_true ⟨by omega, by omega, by omega⟩, ?_⟩
      rw [World.cell?_of_block (a := ⟨gb, j, none⟩) (hb3 gb hlt.1)]
      refine row_cell HO7.out ?_
      unfold ints
      rw [List.getElem?_map, List.getElem?_map, List.getElem?_eq_getElem hj, (hf j hj).2]
      rfl
    have HI0 := Lib.hid hI0; have HBS := Lib.hid hbs; have HC := Lib.hid hC; have HF := Lib.hid hf; have HWLS := Lib.hid hWs; have HSG := Lib.hid hσ; have HNL := Lib.hid hnl
    clear hWl hWb hm0 hm1 hm2 hmap hb3 h67 hX6 hI0 hbs hC hf hσ hnl hs67 hz6 hnn hlow hmm q0 ql0 q2 ql2 q4 ql4 ql3 zl
    refine wpIn_rangeFunc_ownH rfl (show 1 ≤ 10 by omega) (gf := 76) (lb := #[.pointer (some ⟨S + 2, 0, none⟩)]) rfl trivial (enters_of Tryd.func76 (by kernel_rfl) rfl)
      (back_stops Fence.wide 9 trivial rfl (by omega) (S + 2) (qF S k.s) a7 ord.length c7 f (by have := HNL.out; have := HN.out; omega) (fun j hj => (HF.out j hj).1) Wl HBS.out (decide_eq_true ⟨by omega, by have := HLOW.out; have := HI0.out.low; omega, by omega⟩) HC.out) Kp.trans (qF_put (by rw [HWLS.out]; exact Nat.le_refl _)) (Below.refl _ _) (fun _ => rfl)
      (FtI P k n g nm st σ most S f ord.length h p l c w) (FtX P k n g nm st most (wt (inst (senB n nm st r) t)) S f ord.length w) (by rw [HWLS.out]; exact FtI.own HP.out) (fun c' => by rw [HWLS.out]; exact FtX.own HP.out c') HI0.out
      (fun x a' _ => a' = { tmps := #[.pointer (some ⟨k.b, 0, none⟩), .agg #[.int .u8 h.k, .int .i64 h.v, .slice p l c], .int .i64 most, .pointer (some ⟨w.heap.size, 0, none⟩), .pointer (some ⟨w.heap.size + 1, 0, none⟩), .pointer (some ⟨w.heap.size + 1 + 1, 0, none⟩), .pointer (some ⟨w.heap.size + 1 + 1 + 1, 0, none⟩), .pointer (some ⟨w.heap.size + 1 + 1 + 1 + 1, 0, none⟩), .slice a7 ord.length c7, .bool true, .pointer (some ⟨S + 1, 0, none⟩), undef, .int .i64 x.v, undef, .func (.func 62) #[] #[.pointer (some ⟨w.heap.size + 1 + 1 + 1 + 1, 0, none⟩)], .agg #[.int .u8 h.k, .int .i64 h.v, .slice p l c], .slice (some ⟨w.heap.size + 1 + 1 + 1 + 1 + 1, 0, none⟩) 1 1, .tuple #[], .tuple #[.slice a7 ord.length c7, .bool true], .pointer (some ⟨k.b, 0, none⟩), .int .i64 most, .slice a6 (varsT t).length c6, .tuple #[.slice a7 ord.length c7, .bool true], .slice a7 ord.length c7, .bool true, .bool true, .bool false, .map (some S), .slice a7 ord.length c7, .func (.func 76) #[] #[.pointer (some ⟨S + 1 + 1, 0, none⟩)], .int .i64 x.i, .int .i64 x.v, undef, undef, undef, undef, undef, undef, undef, undef, undef, undef, undef, undef, undef, undef, undef, undef, undef, undef, undef, undef], defers := [] })
      (fun x a' _ X Y row hs hg hr => hs)
      ?assign ?body ?done ?stop
    case assign =>
      rintro l' pre x W K hI hK
      unfold encI
      gi_wp2
      exact hK _ _ (KeepsFrom.refl _ _) (Kp.refl _ _) hI rfl
    case body =>
      rintro l' pre x a' W hl ⟨r', hr'⟩ hI rfl hlt
      obtain ⟨e', hT, hR⟩ := hI.book
      obtain ⟨F0, sz, hM, hFz, hFN, hgood⟩ := hI.map
      have hlow := hI.low
      have hst := stand_walk P W.drew k none n e' g x.v (hT.below ⟨rfl, rfl, rfl, Nat.le_refl _, fun _ _ => rfl⟩) (keyOk_of (by have := x.lt; omega))
      rw [cmb_none] at hst
      have hte : evT (tyO (e' x.v)) = (varsT (tyO (e' x.v))).map (fun v => ((v : Nat) : Int)) ∧ wt (tyO (e' x.v)) ≤ 1000000 ∧ ∀ v ∈ varsT (tyO (e' x.v)), v < n := by
        cases he : e' x.v with
        | none => exact ⟨by kernel_rfl, by show wt zTy ≤ _; unfold zTy; rw [wt_ks]; show wts [] + 1 ≤ _; rw [wts_nil]; omega, fun v hv => by cases hv⟩
        | some t' =>
          have hm' := hR.may _ _ he
          refine ⟨ev_vars t' hm', ?_⟩
          show wt t' ≤ 1000000 ∧ ∀ v ∈ varsT t', v < n
          by_cases h5 : t'.h.k = 5
          · have e1 := is_var hm' h5
            have h6 := hT.me.lt _ _ he
            rw [e1] at he ⊢
            have h7 := (hR.link _ _ he).1
            exact ⟨by rw [wt_ks]; show wts [] + 1 ≤ _; rw [wts_nil]; omega, fun v hv => by rw [vars_var] at hv; simp at hv; omega⟩
          · obtain ⟨h6, h7⟩ := hR.type _ _ he h5
            exact ⟨HWS.out _ _ h7, (HB.out.name _ _ h7).2.2.2⟩
      have HI := Lib.hid hI; have HT1 := Lib.hid hT; have HR1 := Lib.hid hR; have HM1 := Lib.hid hM; have HFZ := Lib.hid hFz; have HFN := Lib.hid hFN; have HGD := Lib.hid hgood; have HLW := Lib.hid hlow; have HSTD := Lib.hid hst; have HTE := Lib.hid hte; have HPL := Lib.hid hlt; have HLL := Lib.hid (And.intro hl hr')
      have hmost0 : 0 ≤ most := by have := HLE.out; omega
      have HM0 := Lib.hid hmost0
      clear hI hT hR hM hFz hFN hgood hlow hst hte hlt hl hr' hmost0
      gi_wp2_with (fail)
      refine region_round (S := fun V => ∀ b, b < S + 3 → b ≠ k.s → V.heap[b]? = W.heap[b]?) (noDefer_spec (by kernel_rfl)) (by kernel_rfl) (fun _ _ _ => rfl) (fun hHeld => ?_)
      refine wpAnyH_take (i := 0) (v := .pointer (some ⟨k.b, 0, none⟩)) rfl (by kernel_rfl) (by kernel_rfl) (by kernel_rfl) (fun _ _ _ h => by cases h.1) (Or.inl ⟨by rfl, ?_⟩) (by assumption) ?_
      · intro w' hSw
        obtain ⟨d0, -, dl⟩ := c1 ((hSw _ (by have := HLW.out; omega) (by have := HLW.out; omega)).trans HI.out.b0)
        first | (go_simp; done) | (go_simp; intro h0; omega) | rfl
      try simp only [Act.put, List.getElem_toArray, List.getElem_cons_succ, List.getElem_cons_zero, List.setIfInBounds_toArray, List.set_cons_zero, List.set_cons_succ]
      refine wpAnyH_take (i := 1) (v := .pointer (some ⟨k.b, 0, none⟩)) rfl (by kernel_rfl) (by kernel_rfl) (by kernel_rfl) (fun _ _ _ h => by cases h.1) (Or.inl ⟨by rfl, ?_⟩) (by assumption) ?_
      · intro w' hSw
        obtain ⟨d0, -, dl⟩ := c1 ((hSw _ (by have := HLW.out; omega) (by have := HLW.out; omega)).trans HI.out.b0)
        first | (go_simp; done) | (go_simp; intro h0; omega) | rfl
      try simp only [Act.put, List.getElem_toArray, List.getElem_cons_succ, List.getElem_cons_zero, List.setIfInBounds_toArray, List.set_cons_zero, List.set_cons_succ]
      refine wpAnyH_take (i := 2) (v := .int .i64 (x.v : Int)) rfl (by kernel_rfl) (by kernel_rfl) (by kernel_rfl) (fun _ _ _ h => by cases h.1) (Or.inl ⟨by rfl, ?_⟩) (by assumption) ?_
      · intro w' hSw
        first | (go_simp; done) | (go_simp; intro h0; omega) | rfl
      try simp only [Act.put, List.getElem_toArray, List.getElem_cons_succ, List.getElem_cons_zero, List.setIfInBounds_toArray, List.set_cons_zero, List.set_cons_succ]
      refine wpAnyH_take (i := 4) (v := .int .i64 most) rfl (by kernel_rfl) (by kernel_rfl) (by kernel_rfl) (fun _ _ _ h => by cases h.1) (Or.inl ⟨by rfl, ?_⟩) (by assumption) ?_
      · intro w' hSw
        obtain ⟨d0, -, dl⟩ := c1 ((hSw _ (by have := HLW.out; omega) (by have := HLW.out; omega)).trans HI.out.b2)
        first | (go_simp; done) | (go_simp; intro h0; omega) | rfl
      try simp only [Act.put, List.getElem_toArray, List.getElem_cons_succ, List.getElem_cons_zero, List.setIfInBounds_toArray, List.set_cons_zero, List.set_cons_succ]
      refine wpAnyH_take (i := 5) (v := .map (some S)) rfl (by kernel_rfl) (by kernel_rfl) (by kernel_rfl) (fun _ _ _ h => by cases h.1) (Or.inl ⟨by rfl, ?_⟩) (by assumption) ?_
      · intro w' hSw
        obtain ⟨d0, -, dl⟩ := c1 ((hSw _ (by have := HLW.out; omega) (by have := HLW.out; omega)).trans HI.out.b4)
        first | (go_simp; done) | (go_simp; intro h0; omega) | rfl
      try simp only [Act.put, List.getElem_toArray, List.getElem_cons_succ, List.getElem_cons_zero, List.setIfInBounds_toArray, List.set_cons_zero, List.set_cons_succ]
      refine wpAnyH_ready (rs := [3]) (by kernel_rfl) (by simp) ?_
      refine AllReadyH.cons rfl (fun K hK => ?_) AllReadyH.nil
      have HK2 := Lib.hid hK
      clear hK
      try rw [if_pos (by rfl)]
      go_simp
      refine HSTD.out.mono ?_
      rintro en w1 ⟨h1, p1, l1, c1', rfl, hty1, hb1⟩
      obtain rfl := hty1.head
      obtain rfl := hty1.len
      have hW1 : Below W.heap.size W w1 := ⟨hb1.os, hb1.tape, hb1.output, hb1.size, hb1.block⟩
      have hlf := left_walk P k none n e' g nm st _ p1 _ c1' (tyO (e' x.v)) most S F0 sz w1 (HT1.out.below hW1) (by rw [cmb_none]; exact HR1.out) ((Kp.of_below (P := P) hb1).ty hty1) HTE.out.1 HTE.out.2.1 (HM1.out.of_block (hW1.block _ HM1.out.lt)) (fun v hv => ⟨HTE.out.2.2 v hv, HFZ.out _⟩) (by have := HLW.out; omega) ⟨HM0.out, HMO.out.2⟩
      have HLF := Lib.hid hlf; have HW1 := Lib.hid hW1
      clear hlf hty1 hb1 hW1 HSTD
      refine HK2.out _ _ (fun b hb _ => HW1.out.block b (by have := HLW.out; omega)) (fun hHeld => ?_)
      clear HK2
      try simp only [Act.put, List.getElem_toArray, List.getElem_cons_succ, List.getElem_cons_zero, List.setIfInBounds_toArray, List.set_cons_zero, List.set_cons_succ]
      clear K
      refine wpAnyH_ready (rs := [6]) (by kernel_rfl) (by simp) ?_
      refine AllReadyH.cons rfl (fun K hK => ?_) AllReadyH.nil
      have HK2 := Lib.hid hK
      clear hK
      try rw [if_pos (by rfl)]
      go_simp
      refine HLF.out.mono ?_
      rintro en w2 ⟨rfl, e2, hT2, hR2, hk2⟩
      rw [cmb_none] at hR2
      obtain ⟨z, hz⟩ : ∃ z : Int, z = ((varsT (tyO (e' x.v))).map fun v => ((v : Nat) : Int)).foldl (leftS nm sz) (most - (wt (tyO (e' x.v)) : Nat)) := ⟨_, rfl⟩
      rw [← hz]
      have HT2 := Lib.hid hT2; have HR2 := Lib.hid hR2; have HK2' := Lib.hid hk2; have HZ := Lib.hid hz
      have HS2 := Lib.hid (fun b (hb : b < S + 3) (hp : b ≠ k.s) => (hk2.block b (by have := HLW.out; have := HW1.out.size; omega) (ne_true hp)).trans (HW1.out.block b (by have := HLW.out; omega)))
      clear hT2 hR2 hk2 hz HLF
      refine HK2.out _ _ HS2.out (fun hHeld => ?_)
      clear HK2
      try simp only [Act.put, List.getElem_toArray, List.getElem_cons_succ, List.getElem_cons_zero, List.setIfInBounds_toArray, List.set_cons_zero, List.set_cons_succ]
      clear K
      refine wpAnyH_take (i := 7) (v := .int .i64 z) rfl (by kernel_rfl) (by kernel_rfl) (by kernel_rfl) (fun _ _ _ h => by cases h.1) (Or.inl ⟨by rfl, ?_⟩) (by assumption) ?_
      · intro w' hSw
        first | (go_simp; done) | (go_simp; intro h0; omega) | rfl
      try simp only [Act.put, List.getElem_toArray, List.getElem_cons_succ, List.getElem_cons_zero, List.setIfInBounds_toArray, List.set_cons_zero, List.set_cons_succ]
      refine wpAnyH_done (by kernel_rfl) ⟨rfl, ?_⟩ _
      clear hHeld
      have hkw : Kp (fun b => decide (b ≠ k.s)) W w2 := (Kp.of_below HW1.out).trans HK2'.out
      have hzW : S + 3 ≤ w2.heap.size := Nat.le_trans HLW.out.2.2 hkw.size
      have HKW2 := Lib.hid hkw; have HZW := Lib.hid hzW
      clear hkw hzW
      by_cases hz0 : z < 0
      · have hzd : decide (z < 0) = true := decide_eq_true hz0
        obtain ⟨y0, yf, yl⟩ := c1 ((HS2.out _ (by have := HLW.out; omega) (by have := HLW.out; omega)).trans HI.out.b3)
        gi_wp2_with (fail)
        have hx3 := (HS2.out _ (by have := HLW.out; omega) (by have := HLW.out; omega)).trans HI.out.b3
        have hset := set1 hx3 (.bool false)
        have hbl : Below w.heap.size w2 (w2.setCell ⟨w.heap.size + 3, 0, none⟩ (.bool false)) := (Below.refl _ _).setCell (p := ⟨w.heap.size + 3, 0, none⟩) (by show _ ≤ w.heap.size + 3; omega) _
        refine ⟨⟨Nat.le_trans HKW2.out.size hbl.size, fun i o hB hi ho => ?_⟩, rfl, hset, ⟨e2, HT2.out.low hbl HP.out HLW.out.1 (fun x hx => by cases hx), HR2.out⟩, (HI.out.kp.trans HKW2.out).low hbl, ⟨HLW.out.1, HLW.out.2.1, Nat.le_trans HZW.out hbl.size⟩, fun hp => ?_⟩
        · rw [HWLS.out] at hB
          exact (Below.heap_setCell _ _ _ _ (by have := HLW.out; show i ≠ w.heap.size + 3; omega)).trans ((HKW2.out.block i (lt_of_block hi) (ne_true (by have := HLW.out; omega))).trans hi)
        · obtain ⟨m, hm, hp⟩ := hp
          obtain ⟨m', rfl, hp1, hx1⟩ := back_snoc hp
          have hg := HGD.out ⟨m', by omega, hp1⟩
          rw [hp1, HSG.out] at hg
          obtain ⟨h1, h2, -⟩ := ft_math HB.out HORD.out HF.out (m := m') (by omega) HR1.out HM0.out HMO.out.2 hg (v := x.v) (by rw [hx1]) HZ.out
          have h3 := (HL.out.2 x.v h1).2.2
          have h4 := h2 hz0
          omega
      · have hzd : decide (z < 0) = false := decide_eq_false hz0
        have hzr : z ≤ 9223372036854775807 := by
          have h1 := fold_in (nm := nm) (sz := sz) ((varsT (tyO (e' x.v))).map fun v => ((v : Nat) : Int)) (most - (wt (tyO (e' x.v)) : Nat)) (by have := HM0.out; have := HMO.out; have := HTE.out.2.1; omega)
          rw [← HZ.out] at h1
          exact h1.2
        have hz1 : 0 ≤ z := by omega
        have hm0 := HM0.out
        have hm1 := HMO.out.2
        have hmap2 : MapAt w2 S F0 := HM1.out.of_block (HS2.out S (by omega) (by have := HLW.out; omega))
        obtain ⟨w3, hrun, hM3, hg3, hs3⟩ := hmap2.store Tryd.underlying90 (N := 1000000000) (fun i _ h => HFN.out i h) (by unfold maxLen; omega) (i := x.v) (keyOk_of (by have := x.lt; omega)) (.int .i64 (most - z))
        obtain ⟨y0, yf, yl⟩ := c1 ((HS2.out (S + 1) (by omega) (by have := HLW.out; omega)).trans HI.out.b4)
        obtain ⟨y2, y2f, y2l⟩ := c1 ((HS2.out (w.heap.size + 2) (by have := HLW.out; omega) (by have := HLW.out; omega)).trans HI.out.b2)
        have e1 : IntKind.i64.wrap (most - z) = most - z := IntWalk.i64_in _ (by omega)
        have HM3 := Lib.hid hM3; have HG3 := Lib.hid hg3
        clear hmap2 hM3 hg3
        gi_wp2_with (fail)
        have hb3 : Below w.heap.size w2 w3 := ⟨HG3.out.os, HG3.out.tape, HG3.out.output, HG3.out.size, fun b hb => HG3.out.block b (by have := HZW.out; have := HLW.out; omega) (fun e => by injection e with e; have := HLW.out; omega)⟩
        have hsame : ∀ b, b < S + 3 → b ≠ k.s → b ≠ S → w3.heap[b]? = W.heap[b]? := fun b h1 h2 h3 => (HG3.out.block b (by have := HZW.out; omega) (fun e => by injection e with e; omega)).trans (HS2.out b h1 h2)
        refine ⟨⟨Nat.le_trans HKW2.out.size HG3.out.size, fun i o hB hi ho => ?_⟩, (HKW2.out.mono fun b hb => decide_eq_true (of_decide_eq_true hb).2.1).grown HG3.out (decide_eq_false fun e => e.2.2 rfl), ⟨?_, ?_, ?_, ?_, ?_, ⟨e2, HT2.out.low hb3 HP.out HLW.out.1 (fun x hx => by cases hx), HR2.out⟩, ⟨_, upd sz x.v (most - z), HM3.out, fun i => ?_, fun i hi => ?_, fun hp y hy => ?_⟩, (HI.out.kp.trans HKW2.out).low hb3, HLW.out.1, HLW.out.2.1, Nat.le_trans HZW.out HG3.out.size⟩⟩
        · exact (HG3.out.block i (Nat.lt_of_lt_of_le (lt_of_block hi) HKW2.out.size) (fun e => by injection e with e; omega)).trans ((HKW2.out.block i (lt_of_block hi) (ne_true (by have := HLW.out; omega))).trans hi)
        · exact (hsame _ (by have := HLW.out; omega) (by have := HLW.out; omega) (by have := HLW.out; omega)).trans HI.out.b0
        · exact (hsame _ (by have := HLW.out; omega) (by have := HLW.out; omega) (by have := HLW.out; omega)).trans HI.out.b1
        · exact (hsame _ (by have := HLW.out; omega) (by have := HLW.out; omega) (by have := HLW.out; omega)).trans HI.out.b2
        · exact (hsame _ (by have := HLW.out; omega) (by have := HLW.out; omega) (by have := HLW.out; omega)).trans HI.out.b3
        · exact (hsame _ (by have := HLW.out; omega) (by have := HLW.out; omega) (by have := HLW.out; omega)).trans HI.out.b4
        · by_cases hix : i = x.v
          · subst hix; exact .inl (by rw [upd_same, upd_same])
          · have := HFZ.out i
            unfold HasZ
            rw [upd_other _ _ hix, upd_other _ _ hix]
            exact this
        · by_cases hix : i = x.v
          · subst hix; exact x.lt
          · rw [upd_other _ _ hix] at hi; exact HFN.out i hi
        · obtain ⟨m, hm, hp⟩ := hp
          obtain ⟨m', rfl, hp1, hx1⟩ := back_snoc hp
          have hg := HGD.out ⟨m', by omega, hp1⟩
          have hg' := hg
          rw [hp1, HSG.out] at hg
          obtain ⟨-, -, h2⟩ := ft_math HB.out HORD.out HF.out (m := m') (by omega) HR1.out HM0.out HMO.out.2 hg (v := x.v) (by rw [hx1]) HZ.out
          have h2 := h2 hz1
          rw [← HSG.out] at h2
          by_cases hyx : y.v = x.v
          · rw [hyx, upd_same]; exact h2
          · rw [upd_other _ _ hyx]
            rcases List.mem_append.1 hy with hy | hy
            · exact hg' y hy
            · rw [List.mem_singleton] at hy; subst hy; exact absurd rfl hyx
    case done =>
      rintro D zs W hD rfl hI hK
      obtain ⟨e', hT, hR⟩ := hI.book
      obtain ⟨F0, sz, hM, hFz, hFN, hgood⟩ := hI.map
      have hlow := hI.low
      have hg := hgood ⟨ord.length, Nat.le_refl _, rfl⟩
      rw [HSG.out] at hg
      rw [HWLS.out] at hD
      have hkP : Kp P w W := hI.kp.mono fun b hb => decide_eq_true fun e => by subst e; rw [hT.me.ps] at hb; cases hb
      have hlf := left_walk P k none n e' g nm st h p l c t most S F0 sz W hT (by rw [cmb_none]; exact hR) (hkP.ty HTY.out) (ev_vars t HM.out) HWT.out hM (fun v hv => ⟨HV.out v hv, hFz _⟩) (by omega) ⟨by have := HLE.out; omega, HMO.out.2⟩
      have hfit := left_fits (θ := senB n nm st r) HM.out most HMO.out.2 (sz := sz) (nm := nm) (fun y hy => by
        obtain ⟨i, hi, hiv⟩ := List.mem_iff_getElem.1 (HORD.out.seed y hy)
        have h1 := hg (f i) (mem_back (Nat.le_refl _) (by omega) hi)
        rw [(HF.out i hi).2, hiv, ← HB.out.sen_nm y] at h1
        exact ⟨h1.1, by have := HMO.out.2; omega⟩)
      obtain ⟨y0, yf, yl⟩ := c1 hI.b0
      obtain ⟨⟨y1, y1', y1''⟩, -, y1l⟩ := c3 hI.b1
      obtain ⟨y2, y2f, y2l⟩ := c1 hI.b2
      obtain ⟨y4, y4f, y4l⟩ := c1 hI.b4
      have HLF := Lib.hid hlf; have HFIT := Lib.hid hfit; have HI := Lib.hid hI; have HLW := Lib.hid hlow; have HKD := Lib.hid hK; have HD := Lib.hid hD
      clear hlf hfit hI hlow hK hD hT hR hM hFz hFN hgood hg hkP
      gi_wp2_with (fail)
      refine ⟨trivial, ?_⟩
      refine (callsIn_wide.2 HLF.out).mono ?_
      rintro en w2 ⟨rfl, e2, hT2, hR2, hk2⟩
      rw [cmb_none] at hR2
      obtain ⟨z, hz⟩ : ∃ z : Int, z = ((varsT t).map fun v => ((v : Nat) : Int)).foldl (leftS nm sz) (most - (wt t : Nat)) := ⟨_, rfl⟩
      rw [← hz]
      have hfit := HFIT.out
      rw [← hz] at hfit
      have hdz : decide (z ≥ 0) = decide ((wt (inst (senB n nm st r) t) : Int) ≤ most) := by
        rcases Int.lt_or_le most (wt (inst (senB n nm st r) t) : Int) with h4 | h4
        · have := hfit.2 h4
          rw [decide_eq_false (show ¬ z ≥ 0 by omega), decide_eq_false (by omega)]
        · have := hfit.1 h4
          rw [decide_eq_true (show z ≥ 0 by omega), decide_eq_true h4]
      have hx3 := (hk2.block _ (lt_of_block HI.out.b3) (ne_true (by have := HLW.out; omega))).trans HI.out.b3
      have hKD := (hk2.block _ (lt_of_block HKD.out) (ne_true (by have := HLW.out; have := HD.out; omega))).trans HKD.out
      obtain ⟨x3, x3f, x3l⟩ := c1 hx3
      have HX3 := Lib.hid hx3; have HT2 := Lib.hid hT2; have HR2 := Lib.hid hR2; have HK2 := Lib.hid hk2; have HKD2 := Lib.hid hKD; have HDZ := Lib.hid hdz
      clear y0 yf yl y1 y1' y1'' y1l y2 y2f y2l y4 y4f y4l hfit hx3 hT2 hR2 hk2 hKD hdz HLF
      gi_wp2_with (fail)
      have hZ : decide (0 ≤ List.foldl (leftS nm sz) (most - ((wt t : Nat) : Int)) (List.map (fun v => ((v : Nat) : Int)) (varsT t))) = decide ((wt (inst (senB n nm st r) t) : Int) ≤ most) := by rw [← hz]; exact HDZ.out
      have hset := set1 HX3.out (.bool (decide (0 ≤ List.foldl (leftS nm sz) (most - ((wt t : Nat) : Int)) (List.map (fun v => ((v : Nat) : Int)) (varsT t)))))
      have hbl : Below w.heap.size w2 (w2.setCell ⟨w.heap.size + 3, 0, none⟩ (.bool (decide (0 ≤ List.foldl (leftS nm sz) (most - ((wt t : Nat) : Int)) (List.map (fun v => ((v : Nat) : Int)) (varsT t)))))) := (Below.refl _ _).setCell (p := ⟨w.heap.size + 3, 0, none⟩) (by show _ ≤ w.heap.size + 3; omega) _
      have hKD3 : (w2.setCell ⟨w.heap.size + 3, 0, none⟩ (.bool (decide (0 ≤ List.foldl (leftS nm sz) (most - ((wt t : Nat) : Int)) (List.map (fun v => ((v : Nat) : Int)) (varsT t)))))).heap[D]? = some (.deferred (some [])) := (Below.heap_setCell _ _ _ _ (by have := HLW.out; have := HD.out; show D ≠ w.heap.size + 3; omega)).trans HKD2.out
      clear x3 x3f x3l
      generalize w2.setCell ⟨w.heap.size + 3, 0, none⟩ (.bool (decide (0 ≤ List.foldl (leftS nm sz) (most - ((wt t : Nat) : Int)) (List.map (fun v => ((v : Nat) : Int)) (varsT t))))) = W3 at *
      have hg4 := grownBy_putObj' W3 D (.deferred none)
      have hlt3 := lt_of_block hset
      have hx4 := (hg4.block (w.heap.size + 3) hlt3 (fun e => by injection e with e; have := HLW.out; have := HD.out; omega)).trans hset
      have hb4 : Below w.heap.size W3 (W3.putObj D (.deferred none)) := ⟨hg4.os, hg4.tape, hg4.output, hg4.size, fun b hb => hg4.block b (by omega) (fun e => by injection e with e; have := HLW.out; have := HD.out; omega)⟩
      obtain ⟨u0, -, ul⟩ := c1 hx4
      refine ⟨by simp, .inl ⟨_, _, rfl, run_takeDeferred hKD3, ?_⟩⟩
      refine ⟨.bool (decide (0 ≤ List.foldl (leftS nm sz) (most - ((wt t : Nat) : Int)) (List.map (fun v => ((v : Nat) : Int)) (varsT t)))), ?_, by rw [hZ], ⟨e2, (HT2.out.low hbl HP.out HLW.out.1 (fun x hx => by cases hx)).low hb4 HP.out HLW.out.1 (fun x hx => by cases hx), HR2.out⟩, ((HI.out.kp.trans HK2.out).low hbl).low hb4⟩
      simp [results, Tryd.f37, go_sem, u0, ul]
    case stop =>
      rintro D c' pre W hD hSp ⟨rfl, hx3, ⟨e2, hT2, hR2⟩, hkp, hlow, hbig⟩ hK
      have hbig := hbig hSp
      rw [HWLS.out] at hD
      obtain ⟨x3, -, x3l⟩ := c1 hx3
      gi_wp2_with (fail)
      have hKD3 := hK
      have hg4 := grownBy_putObj' W D (.deferred none)
      have hlt3 := lt_of_block hx3
      have hx4 := (hg4.block (w.heap.size + 3) hlt3 (fun e => by injection e with e; omega)).trans hx3
      have hb4 : Below w.heap.size W (W.putObj D (.deferred none)) := ⟨hg4.os, hg4.tape, hg4.output, hg4.size, fun b hb => hg4.block b (by omega) (fun e => by injection e with e; omega)⟩
      obtain ⟨u0, -, ul⟩ := c1 hx4
      refine ⟨by simp, .inl ⟨_, _, rfl, run_takeDeferred hKD3, ?_⟩⟩
      refine ⟨.bool false, ?_, by rw [decide_eq_false (by omega)], ⟨e2, hT2.low hb4 HP.out hlow.1 (fun x hx => by cases hx), hR2⟩, hkp.low hb4⟩
      simp [results, Tryd.f37, go_sem, u0, ul]
end Types
end Go.Proofs.YtjchplgapaeagaaDoor
