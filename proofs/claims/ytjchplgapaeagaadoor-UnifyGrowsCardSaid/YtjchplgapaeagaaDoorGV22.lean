/-The program's finite. (Written by wip/tools/unfinite.py.) Unification: an order makes a trial without circles; what Join relies on. What a book has not. -/
import Derived.Test.YtjchplgapaeagaaDoorGV16
import Derived.Test.YtjchplgapaeagaaDoorGV21
import Derived.Test.YtjchplgapaeagaaDoorGV06
namespace Go.Proofs.YtjchplgapaeagaaDoor
open Go.RowKit
set_option linter.unusedVariables false
set_option linter.unusedSimpArgs false
namespace Types

/-- Those that may have come to stand within themselves. -/
def boundL (n0 : Nat) (e0 : Nat → Option Ty) (g : Nat → Bool) (jl : List Nat) : List Nat := jl.filter fun v => !finB n0 e0 g v
def FinEnd (P : Nat → Bool) (k k0 : Bk) (n0 : Nat) (e0 : Nat → Option Ty) (n : Nat) (g : Nat → Bool) (nm : Nat → Nat) (st : Nat → Option Ty) (jl : List Nat) (w : World) (en : Ending) (w' : World) : Prop :=
  (∃ e', TBk P w' k (some (k0, n0, e0)) n e' g ∧ Rep (cmb (some (k0, n0, e0)) e') nm st) ∧ Kp (fun b => decide (b ≠ k.s)) w w' ∧
    ((en = .returned (.bool true) ∧ ∃ ord, Ord n nm st (fun _ => True) (boundL n0 e0 g jl) ord) ∨ (en = .returned (.bool false) ∧ ∃ Z : List Nat, Z ≠ [] ∧ ∀ c ∈ Z, ∃ p ∈ Z, c ∈ namesN nm st p))
set_option maxRecDepth 100000 in
set_option maxHeartbeats 12800000 in
theorem finite_walk (P : Nat → Bool) (k k0 : Bk) (n0 : Nat) (e0 : Nat → Option Ty) (n : Nat) (e : Nat → Option Ty) (g : Nat → Bool) (nm : Nat → Nat) (st : Nat → Option Ty) (jl : List Nat) (a : Option Addr) (c B0 : Nat) (w : World)
    (hT : TBk P w k (some (k0, n0, e0)) n e g) (hR : Rep (cmb (some (k0, n0, e0)) e) nm st) (hst : ∀ v t, st v = some t → mayT t = true ∧ ∀ x ∈ varsT t, x < n) (hP : ∀ b, w.heap.size ≤ b → P b = false) (hn : n < 1000000000)
    (hrow : w.ownsRow B0 3 1 (.slice a jl.length c) jl.length (ints (jl.map fun v => ((v : Nat) : Int)))) (hll : jl.length < 4000000000) (hl : ∀ x ∈ jl, x < n) (hoc : sumN n (fun p => (namesN nm st p).length) ≤ 2000000000000000000) :
    Calls Tryd.prog 35 #[.pointer (some ⟨k.b, 0, none⟩), .slice a jl.length c] w (FinEnd P k k0 n0 e0 n g nm st jl w) := by
  have hb0 := al_new (W := w) (.cells #[.pointer (some ⟨k.b, 0, none⟩)] 28)
  have hx0 := heap_alloc_new w (.cells #[.pointer (some ⟨k.b, 0, none⟩)] 28)
  have hz0 : (w.alloc (.cells #[.pointer (some ⟨k.b, 0, none⟩)] 28)).heap.size = w.heap.size + 1 := by simp
  have hlow := hT.all_low
  have hT0 := hT.below hb0
  have hcw := clone_walk B0 jl.length c a (jl.map fun v => ((v : Nat) : Int)) (w.alloc (.cells #[.pointer (some ⟨k.b, 0, none⟩)] 28)) (own_all hrow hb0) (by omega)
  have HB0 := Lib.hid hb0; have HX0 := Lib.hid hx0; have HZ0 := Lib.hid hz0; have HLOW := Lib.hid hlow; have HT0 := Lib.hid hT0; have HR := Lib.hid hR; have HST := Lib.hid hst; have HP := Lib.hid hP; have HN := Lib.hid hn; have HLL := Lib.hid hll; have HL := Lib.hid hl; have HOC := Lib.hid hoc; have HCW := Lib.hid hcw
  clear hb0 hx0 hz0 hlow hT0 hcw hT hR hst hP hn hrow hll hl hoc
  go_enter Tryd.func35, Tryd.ntmps35
  go_wp2_with (fail)
  refine HCW.out.mono ?_
  rintro en w1 ⟨a1, c1', rfl, hown1, hb1⟩
  have hx1 := (hb1.block _ (lt_of_block HX0.out)).trans HX0.out
  have hT1 := HT0.out.below hb1
  have hg1 : ∀ g', (Value.slice a1 jl.length c1').ownBlock = some g' → w.heap.size + 1 ≤ g' ∧ g' < w1.heap.size := fun g' e => ⟨by have := (own_row_lt hown1 e).2; have := HZ0.out; omega, (own_row_lt hown1 e).1⟩
  have hk1 : ∀ W W', TBk P W k (some (k0, n0, e0)) n e g → Kp (fun b => decide ((Value.slice a1 jl.length c1').ownBlock ≠ some b)) W W' → TBk P W' k (some (k0, n0, e0)) n e g := fun W W' h hk => by
    obtain ⟨⟨q1, q2, q3⟩, q4⟩ := HLOW.out
    exact h.kept hk (fun b hb => decide_eq_true fun e => by have := (hg1 b e).1; rw [HP.out b (by omega)] at hb; cases hb) ⟨decide_eq_true fun e => by have := (hg1 _ e).1; omega, decide_eq_true fun e => by have := (hg1 _ e).1; omega, decide_eq_true fun e => by have := (hg1 _ e).1; omega⟩ fun x hx => ⟨decide_eq_true fun e => by have := (hg1 _ e).1; have := q4 x hx; omega, decide_eq_true fun e => by have := (hg1 _ e).1; have := q4 x hx; omega⟩
  have hde := deleteF (.pointer (some ⟨w.heap.size, 0, none⟩)) (fun v => finB n0 e0 g v.toNat) (fun W => W.heap[w.heap.size]? = some (.cells #[.pointer (some ⟨k.b, 0, none⟩)] 28 (0, 0)) ∧ TBk P W k (some (k0, n0, e0)) n e g) (jl.map fun v => ((v : Nat) : Int)) a1 jl.length c1' (w.heap.size + 1)
    (fun v W hv hW => by
      obtain ⟨x, hx, rfl⟩ := List.mem_map.1 hv
      exact finite1_walk P k k0 n n0 e e0 g w.heap.size x W hW.1 hW.2 (HL.out x hx))
    (fun W W' hW hk => ⟨(hk.block _ (lt_of_block hW.1) (decide_eq_true fun e => by have := (hg1 _ e).1; omega)).trans hW.1, hk1 W W' hW.2 hk⟩) w1 (by rw [List.length_map]) (by have := HLL.out; omega) (own_rebase hown1 (fun g' e => (hg1 g' e).1)) ⟨hx1, hT1⟩
  obtain ⟨bl, hbl⟩ : ∃ bl, bl = boundL n0 e0 g jl := ⟨_, rfl⟩
  have hfil : (jl.map fun v => ((v : Nat) : Int)).filter (fun v => !(finB n0 e0 g v.toNat)) = bl.map fun v => ((v : Nat) : Int) := by rw [List.filter_map, hbl]; rfl
  rw [hfil, List.length_map] at hde
  have HDE := Lib.hid hde; have HG1 := Lib.hid hg1; have HK1 := Lib.hid hk1; have HT1 := Lib.hid hT1; have HX1 := Lib.hid hx1; have HBL := Lib.hid hbl; have HB1 := Lib.hid hb1
  clear hde hg1 hk1 hT1 hx1 hbl hfil hown1 hb1 HCW
  go_wp2_with (fail)
  refine HDE.out.mono ?_
  rintro en w2 ⟨rfl, hown2, hk2⟩
  have hT2 := HK1.out w1 w2 HT1.out hk2
  have hx2 := (hk2.block _ (lt_of_block HX1.out) (decide_eq_true fun e => by have := (HG1.out _ e).1; omega)).trans HX1.out
  have hbn : ∀ x ∈ bl, x < n ∧ (fun _ => True) (nm x) := fun x hx => ⟨HL.out x (List.mem_filter.1 (by rw [HBL.out] at hx; exact hx)).1, trivial⟩
  have hsz2 : w.heap.size + 1 ≤ w2.heap.size := by have := HB1.out.size; have := HZ0.out; have := hk2.size; omega
  have hbll : bl.length < 4000000000 := by
    have := List.length_filter_le (fun v => !finB n0 e0 g v) jl
    have h2 := HLL.out
    rw [HBL.out]
    unfold boundL
    omega
  have hww := within_walk P k (some (k0, n0, e0)) n e g nm st (fun _ => True) n bl a1 c1' (w.heap.size + 1) w2 hT2 HR.out HST.out (fun b hb => HP.out b (by omega)) HN.out hown2 (fun e => by have := (HG1.out _ ((own_len _ _ _ _ _).trans e)).1; have := HLOW.out.1; omega) hbll hbn (fun _ _ _ _ => trivial) HOC.out (by have := HN.out; omega)
  have hkw : Kp (fun b => decide (b ≠ k.s)) w w2 := ⟨hk2.os.trans (HB1.out.os.trans HB0.out.os), hk2.tape.trans (HB1.out.tape.trans HB0.out.tape), hk2.output.trans (HB1.out.output.trans HB0.out.output), by omega, fun b hb hp => (hk2.block b (by have := HB1.out.size; have := HZ0.out; omega) (decide_eq_true fun e => by have := (HG1.out _ e).1; omega)).trans ((HB1.out.block b (by have := HZ0.out; omega)).trans (HB0.out.block b hb))⟩
  have HT2 := Lib.hid hT2; have HX2 := Lib.hid hx2; have HKW := Lib.hid hkw
  have hwd : Calls Tryd.prog 60 #[.pointer (some ⟨k.b, 0, none⟩), .int .i64 n, .slice a1 bl.length c1'] w2.drew (WEnd P k (some (k0, n0, e0)) n g nm st (fun _ => True) n bl w2.drew) :=
    within_walk P k (some (k0, n0, e0)) n e g nm st (fun _ => True) n bl a1 c1' (w.heap.size + 1) w2.drew (hT2.below ⟨rfl, rfl, rfl, Nat.le_refl _, fun _ _ => rfl⟩) HR.out HST.out (fun b hb => HP.out b (Nat.le_trans (by show w.heap.size ≤ w2.heap.size; omega) hb)) HN.out ⟨hown2.1, hown2.2⟩ (fun e => by have := (HG1.out _ ((own_len _ _ _ _ _).trans e)).1; have := HLOW.out.1; omega) hbll hbn (fun _ _ _ _ => trivial) HOC.out (by have := HN.out; omega)
  have HWD := Lib.hid hwd
  clear hown2 hk2 hT2 hx2 hbn hsz2 hbll hww hkw hwd HDE
  go_upto_region 2 with (fail)
  refine wp_region_held_drew (S := fun (V : World) => V.heap[w.heap.size]? = w2.heap[w.heap.size]? ∧ V.heap[k.b]? = w2.heap[k.b]?) (by kernel_rfl) ⟨rfl, rfl⟩ (fun hHeld => ?_)
  refine wpAnyH_take (i := 0) (v := .pointer (some ⟨k.b, 0, none⟩)) rfl (by kernel_rfl) (by kernel_rfl) (by kernel_rfl) (fun _ _ _ h => h) (Or.inl ⟨by rfl, ?_⟩) (by assumption) ?_
  · intro w' hSw
    obtain ⟨d0, -, dl⟩ := c1 (hSw.1.trans HX2.out)
    first | (go_simp; done) | (go_simp; intro h0; omega) | rfl
  try simp only [Act.put, List.getElem_toArray, List.getElem_cons_succ, List.getElem_cons_zero, List.setIfInBounds_toArray, List.set_cons_zero, List.set_cons_succ]
  refine wpAnyH_take (i := 1) (v := .pointer (some ⟨k.b, 0, none⟩)) rfl (by kernel_rfl) (by kernel_rfl) (by kernel_rfl) (fun _ _ _ h => h) (Or.inl ⟨by rfl, ?_⟩) (by assumption) ?_
  · intro w' hSw
    obtain ⟨d0, -, dl⟩ := c1 (hSw.1.trans HX2.out)
    first | (go_simp; done) | (go_simp; intro h0; omega) | rfl
  try simp only [Act.put, List.getElem_toArray, List.getElem_cons_succ, List.getElem_cons_zero, List.setIfInBounds_toArray, List.set_cons_zero, List.set_cons_succ]
  refine wpAnyH_take (i := 2) (v := .pointer (some ⟨k.b, 0, none⟩)) rfl (by kernel_rfl) (by kernel_rfl) (by kernel_rfl) (fun _ _ _ h => h) (Or.inl ⟨by rfl, ?_⟩) (by assumption) ?_
  · intro w' hSw
    obtain ⟨y0, y1, y2, y3, yl⟩ := bkc (hSw.2.trans HT2.out.me.box)
    first | (go_simp; done) | (go_simp; intro h0; omega) | rfl
  try simp only [Act.put, List.getElem_toArray, List.getElem_cons_succ, List.getElem_cons_zero, List.setIfInBounds_toArray, List.set_cons_zero, List.set_cons_succ]
  refine wpAnyH_take (i := 3) (v := .pointer (some ⟨k.b, 1, none⟩)) rfl (by kernel_rfl) (by kernel_rfl) (by kernel_rfl) (fun _ _ _ h => h) (Or.inl ⟨by rfl, ?_⟩) (by assumption) ?_
  · intro w' hSw
    first | (go_simp; done) | (go_simp; intro h0; omega) | rfl
  try simp only [Act.put, List.getElem_toArray, List.getElem_cons_succ, List.getElem_cons_zero, List.setIfInBounds_toArray, List.set_cons_zero, List.set_cons_succ]
  refine wpAnyH_take (i := 4) (v := .int .i64 (n : Int)) rfl (by kernel_rfl) (by kernel_rfl) (by kernel_rfl) (fun _ _ _ h => h) (Or.inl ⟨by rfl, ?_⟩) (by assumption) ?_
  · intro w' hSw
    obtain ⟨y0, y1, y2, y3, yl⟩ := bkc (hSw.2.trans HT2.out.me.box)
    first | (go_simp; done) | (go_simp; intro h0; omega) | rfl
  try simp only [Act.put, List.getElem_toArray, List.getElem_cons_succ, List.getElem_cons_zero, List.setIfInBounds_toArray, List.set_cons_zero, List.set_cons_succ]
  refine wpAnyH_take (i := 5) (v := .slice a1 bl.length c1') rfl (by kernel_rfl) (by kernel_rfl) (by kernel_rfl) (fun _ _ _ h => h) (Or.inl ⟨by rfl, ?_⟩) (by assumption) ?_
  · intro w' hSw
    first | (go_simp; done) | (go_simp; intro h0; omega) | rfl
  try simp only [Act.put, List.getElem_toArray, List.getElem_cons_succ, List.getElem_cons_zero, List.setIfInBounds_toArray, List.set_cons_zero, List.set_cons_succ]
  refine wpAnyH_ready (rs := [6]) (by kernel_rfl) (by simp) ?_
  refine AllReadyH.cons rfl (fun K hK => ?_) AllReadyH.nil
  have HK2 := Lib.hid hK
  clear hK
  try rw [if_pos (by rfl)]
  go_simp
  refine HWD.out.mono ?_
  rintro en w3 ⟨hbk, hk3, hor⟩
  replace hk3 : Kp (fun b => decide (b ≠ k.s)) w2 w3 := ⟨hk3.os, hk3.tape, hk3.output, hk3.size, hk3.block⟩
  have hlk := HLOW.out.1
  have HS3 := Lib.hid (show w3.heap[w.heap.size]? = w2.heap[w.heap.size]? ∧ w3.heap[k.b]? = w2.heap[k.b]? from ⟨hk3.block _ (lt_of_block HX2.out) (decide_eq_true (by omega)), hk3.block _ (lt_of_block HT2.out.me.box) (decide_eq_true HT2.out.me.bs)⟩)
  obtain ⟨vr, bo, hen, hfin⟩ : ∃ vr bo, en = .returned (.tuple #[vr, .bool bo]) ∧ FinEnd P k k0 n0 e0 n g nm st jl w (.returned (.bool bo)) w3 := by
    rcases hor with ⟨a9, c9, ord, rfl, _, hord, _⟩ | ⟨v9, rfl, hno⟩
    · exact ⟨_, true, rfl, hbk, HKW.out.trans hk3, .inl ⟨rfl, ord, by rw [← HBL.out]; exact hord⟩⟩
    · refine ⟨_, false, rfl, hbk, HKW.out.trans hk3, .inr ⟨rfl, ?_⟩⟩
      rcases hno with ⟨met, m1, m2, m3⟩ | ⟨Z, z1, _, z3⟩
      · have := nodup_few m1 fun x hx => (m2 x hx).2.1
        omega
      · exact ⟨Z, z1, z3⟩
  subst hen
  have HFIN := Lib.hid hfin
  clear hbk hk3 hor hfin hlk
  refine HK2.out _ _ HS3.out (fun hHeld => ?_)
  clear HK2
  try simp only [Act.put, List.getElem_toArray, List.getElem_cons_succ, List.getElem_cons_zero, List.setIfInBounds_toArray, List.set_cons_zero, List.set_cons_succ]
  clear K
  refine wpAnyH_take (i := 7) (v := .tuple #[vr, .bool bo]) rfl (by kernel_rfl) (by kernel_rfl) (by kernel_rfl) (fun _ _ _ h => h) (Or.inl ⟨by rfl, ?_⟩) (by assumption) ?_
  · intro w' hSw
    first | (go_simp; done) | (go_simp; intro h0; omega) | rfl
  try simp only [Act.put, List.getElem_toArray, List.getElem_cons_succ, List.getElem_cons_zero, List.setIfInBounds_toArray, List.set_cons_zero, List.set_cons_succ]
  refine wpAnyH_take (i := 8) (v := vr) rfl (by kernel_rfl) (by kernel_rfl) (by kernel_rfl) (fun _ _ _ h => h) (Or.inl ⟨by rfl, ?_⟩) (by assumption) ?_
  · intro w' hSw
    first | (go_simp; done) | (go_simp; intro h0; omega) | rfl
  try simp only [Act.put, List.getElem_toArray, List.getElem_cons_succ, List.getElem_cons_zero, List.setIfInBounds_toArray, List.set_cons_zero, List.set_cons_succ]
  refine wpAnyH_take (i := 9) (v := .bool bo) rfl (by kernel_rfl) (by kernel_rfl) (by kernel_rfl) (fun _ _ _ h => h) (Or.inl ⟨by rfl, ?_⟩) (by assumption) ?_
  · intro w' hSw
    first | (go_simp; done) | (go_simp; intro h0; omega) | rfl
  try simp only [Act.put, List.getElem_toArray, List.getElem_cons_succ, List.getElem_cons_zero, List.setIfInBounds_toArray, List.set_cons_zero, List.set_cons_succ]
  refine wpAnyH_take (i := 10) (v := vr) rfl (by kernel_rfl) (by kernel_rfl) (by kernel_rfl) (fun _ _ _ h => h) (Or.inl ⟨by rfl, ?_⟩) (by assumption) ?_
  · intro w' hSw
    first | (go_simp; done) | (go_simp; intro h0; omega) | rfl
  try simp only [Act.put, List.getElem_toArray, List.getElem_cons_succ, List.getElem_cons_zero, List.setIfInBounds_toArray, List.set_cons_zero, List.set_cons_succ]
  refine wpAnyH_take (i := 11) (v := .bool bo) rfl (by kernel_rfl) (by kernel_rfl) (by kernel_rfl) (fun _ _ _ h => h) (Or.inl ⟨by rfl, ?_⟩) (by assumption) ?_
  · intro w' hSw
    first | (go_simp; done) | (go_simp; intro h0; omega) | rfl
  try simp only [Act.put, List.getElem_toArray, List.getElem_cons_succ, List.getElem_cons_zero, List.setIfInBounds_toArray, List.set_cons_zero, List.set_cons_succ]
  refine wpAnyH_done (by kernel_rfl) ?_ _
  clear hHeld HS3
  go_wp2_with (fail)
  exact bodyPost_ret (by simp [results, Tryd.results35, go_sem]) rfl HFIN.out
end Types
end Go.Proofs.YtjchplgapaeagaaDoor
namespace Go.Proofs.YtjchplgapaeagaaDoor
set_option linter.unusedVariables false
namespace Types

theorem names_of {nm : Nat → Nat} {st : Nat → Option Ty} {p : Nat} {t : Ty} (h : st p = some t) {w : Nat} (hw : w ∈ varsT t) : nm w ∈ namesN nm st p := by
  unfold namesN; rw [h]; exact List.mem_map.2 ⟨w, hw, rfl⟩
theorem of_names {nm : Nat → Nat} {st : Nat → Option Ty} {p c : Nat} (h : c ∈ namesN nm st p) : ∃ t, st p = some t ∧ ∃ w ∈ varsT t, nm w = c := by
  unfold namesN at h
  cases hs : st p with
  | none => rw [hs, show tyO none = zTy from rfl, varsZ] at h; cases h
  | some t => rw [hs] at h; obtain ⟨w, hw, e⟩ := List.mem_map.1 h; exact ⟨t, rfl, w, hw, e⟩
/-- How far from the end of an order a name stands. -/
def farO (ord : List Nat) (c : Nat) : Nat := ord.length - ord.idxOf c
theorem Ord.falls {n : Nat} {nm : Nat → Nat} {st : Nat → Option Ty} {R : Nat → Prop} {l ord : List Nat} (h : Ord n nm st R l ord) {c : Nat} {t : Ty} (hc : c ∈ ord) (hs : st c = some t) {w : Nat} (hw : w ∈ varsT t) : nm w ∈ ord ∧ farO ord (nm w) < farO ord c := by
  have hn := names_of (nm := nm) hs hw
  have hwo := h.cl c hc _ hn
  refine ⟨hwo, ?_⟩
  have h1 := List.idxOf_lt_length_of_mem hwo
  have hj : ord[ord.idxOf (nm w)]? = some (nm w) := by rw [List.getElem?_eq_getElem h1, List.getElem_idxOf h1]
  have h2 := h.top _ _ hj c hc hn
  have h3 : ord.idxOf c < ord.idxOf (nm w) := by
    have h4 : (ord.take (ord.idxOf (nm w))).idxOf c < (ord.take (ord.idxOf (nm w))).length := List.idxOf_lt_length_of_mem h2
    have h5 : ord.idxOf c = (ord.take (ord.idxOf (nm w))).idxOf c := by
      conv => lhs; rw [← List.take_append_drop (ord.idxOf (nm w)) ord]
      rw [List.idxOf_append, if_pos h2]
    rw [h5]
    rw [List.length_take] at h4
    omega
  unfold farO
  omega
theorem vars_len : ∀ t, (varsT t).length ≤ wt t := by
  refine ty_rec fun t ih => ?_
  have hk : ∀ l : List Ty, (∀ u ∈ l, (varsT u).length ≤ wt u) → (varsK l).length ≤ wts l := by
    intro l
    induction l with
    | nil => intro _; rw [varsK_nil, wts_nil]; exact Nat.le_refl _
    | cons x l ihl => intro h; rw [varsK_cons, wts_cons, List.length_append]; have := h x (by simp); have := ihl fun u hu => h u (by simp [hu]); omega
  have h1 := hk t.ks ih
  have h2 := wt_ks t
  rw [varsT_eq, List.length_append]
  split
  · show 1 + _ ≤ _; omega
  · show 0 + _ ≤ _; omega
theorem names_few {N : Nat} {nm : Nat → Nat} {st : Nat → Option Ty} (hm : ∀ v t, st v = some t → mayT t = true) : sumN N (fun p => (namesN nm st p).length) ≤ 2 * sumN N (wT st) + N := by
  have h1 : sumN N (fun p => (namesN nm st p).length) ≤ sumN N (fun v => 2 * wT st v + 1) := sumN_le fun v _ => by
    unfold namesN
    rw [List.length_map]
    unfold wT
    cases hs : st v with
    | none => rw [show tyO none = zTy from rfl, varsZ]; exact Nat.zero_le _
    | some t =>
      show (varsT t).length ≤ 2 * nv t + 1
      have := vars_len t
      have := wt_nv t (hm v t hs)
      omega
  have h2 : ∀ n : Nat, sumN n (fun _ => 1) = n := by
    intro n
    induction n with
    | zero => rfl
    | succ n ih => unfold sumN; rw [ih]
  have h3 := sumN_add N (fun v => 2 * wT st v) (fun _ => 1)
  rw [h2, sumN_mul] at h3
  omega
theorem sO_wT {N : Nat} {st : Nat → Option Ty} : sO N st ≤ sumN N (wT st) := sumN_le fun v _ => by
  unfold wO wT
  cases st v with
  | none => exact Nat.le_refl _
  | some t => show nvK t.ks ≤ nv t; rw [nv_eq]; exact Nat.le_add_left _ _
theorem int_list {js : List Int} {joined : List Nat} (h : ∀ x, x ∈ js ↔ ∃ v ∈ joined, x = ((v : Nat) : Int)) : js = (js.map Int.toNat).map (fun v => ((v : Nat) : Int)) ∧ (∀ v, v ∈ js.map Int.toNat ↔ v ∈ joined) ∧ (js.Nodup → (js.map Int.toNat).Nodup) := by
  have h1 : js = (js.map Int.toNat).map (fun v => ((v : Nat) : Int)) := by
    rw [List.map_map]
    conv => lhs; rw [← List.map_id js]
    refine List.map_congr_left fun x hx => ?_
    obtain ⟨v, _, e⟩ := (h x).1 hx
    subst e
    rfl
  refine ⟨h1, fun v => ⟨fun hv => ?_, fun hv => List.mem_map.2 ⟨(v : Int), (h _).2 ⟨v, hv, rfl⟩, rfl⟩⟩, fun hd => ?_⟩
  · obtain ⟨x, hx, e⟩ := List.mem_map.1 hv
    obtain ⟨u, hu, e2⟩ := (h x).1 hx
    subst e2
    rw [← e]
    exact hu
  · rw [h1] at hd
    exact (List.pairwise_map.1 hd).imp fun q e => q (by rw [e])
end Types
end Go.Proofs.YtjchplgapaeagaaDoor
namespace Go.Proofs.YtjchplgapaeagaaDoor
open Go.RowKit
set_option linter.unusedVariables false
set_option linter.unusedSimpArgs false
namespace Types

set_option maxRecDepth 100000 in
set_option maxHeartbeats 3200000 in
theorem join1_walk (k : Bk) (up : Option Addr) (n : Nat) (t : Ty) (h : Hd) (p : Option Addr) (l c : Nat) (N : Nat) (w : World) (hN : w.heap[N]? = some (.cells #[.pointer (some ⟨k.b, 0, none⟩)] 28 (0, 0))) (hB : w.heap[k.b]? = some (.cells (bkCells k up n) 59 (0, 0))) (hT : TyIs w h p l c t) (hk : KidsLaid w) :
    Calls Tryd.prog 31 #[.agg #[.int .u8 h.k, .int .i64 h.v, .slice p l c], .pointer (some ⟨N, 0, none⟩)] w fun en w' => en = .returned (.bool (!hasB n t)) ∧ Below w.heap.size w w' := by
  have hb1 := al_new (W := w) (.cells #[.int .u8 h.k, .int .i64 h.v, .slice p l c] 25)
  have hh := has_walk k up n t h p l c _ ((hb1.block _ (lt_of_block hB)).trans hB) (hT.below hb1) (hk.below hb1)
  obtain ⟨x0, xf, xl⟩ := c1 hN
  have HH := Lib.hid hh; have HB1 := Lib.hid hb1
  clear hh hb1 hN hB hT hk
  go_enter Tryd.func31, Tryd.ntmps31
  go_wp2_with (fail)
  refine HH.out.mono ?_
  rintro en w1 ⟨rfl, hb2⟩
  have HB2 := Lib.hid (HB1.out.trans (hb2.mono HB1.out.size))
  clear HH HB1 hb2 x0 xf xl
  go_wp2_with (fail)
  go_ret
  exact ⟨rfl, HB2.out⟩
theorem kids_stay {w w' : World} {p : Option Addr} {ts : List Ty} (h : Kids w p ts) (hb : Below w.heap.size w w') : Kids w' p ts := h.stay hb
set_option maxRecDepth 100000 in
set_option maxHeartbeats 6400000 in
theorem index_walk (k : Bk) (up : Option Addr) (n : Nat) (ts : List Ty) (p : Option Addr) (l d : Nat) (N : Nat) (w : World) (hN : w.heap[N]? = some (.cells #[.pointer (some ⟨k.b, 0, none⟩)] 28 (0, 0))) (hB : w.heap[k.b]? = some (.cells (bkCells k up n) 59 (0, 0))) (hK : Kids w p ts) (hl : ts.length = l) (hlm : l ≤ maxLen) (hk : KidsLaid w) :
    Calls Tryd.prog 45 #[.slice p l d, .func (.func 31) #[] #[.pointer (some ⟨N, 0, none⟩)]] w fun en w' => ∃ i : Int, en = .returned (.int .i64 i) ∧ (decide (0 ≤ i) = ts.any fun s => !hasB n s) ∧ Below w.heap.size w w' := by
  unfold maxLen at hlm
  have HN := Lib.hid hN; have HB := Lib.hid hB; have HKI := Lib.hid hK; have HL := Lib.hid hl; have HKL := Lib.hid hk
  clear hN hB hK hl hk
  go_enter Tryd.func45, Tryd.ntmps45
  go_wp2_with (fail)
  go_loopw [8] (fun i wr => ∃ j : Nat, j ≤ l ∧ i = .int .i64 j ∧ Hid (Below w.heap.size w wr) ∧ Hid (((ts.take j).any fun s => !hasB n s) = false)) (fun i _ => l - (intOf i).toNat)
  case atStart => exact ⟨0, Nat.zero_le _, rfl, Lib.hid (Below.refl _ _), Lib.hid rfl⟩
  case round =>
    obtain ⟨j, hj, rfl, HW, HA⟩ := hrel
    by_cases hlt : j < l
    · have hjk : j < ts.length := by rw [HL.out]; exact hlt
      have hkr := HKI.out.stay HW.out
      obtain ⟨bb, o, q, c', rfl, hkid, f0, f1, f2⟩ := hkr.get j hjk
      have hsz := HW.out.size
      have hjw := join1_walk k up n (tget ts j) (tget ts j).h q (tget ts j).ks.length c' N wr ((HW.out.block _ (lt_of_block HN.out)).trans HN.out) ((HW.out.block _ (lt_of_block HB.out)).trans HB.out) hkid (HKL.out.below HW.out)
      have hany : ((ts.take (j + 1)).any fun s => !hasB n s) = !hasB n (tget ts j) := by rw [take_tget ts j hjk, List.any_append, HA.out]; simp
      have hall : hasB n (tget ts j) = false → (ts.any fun s => !hasB n s) = true := fun h => List.any_eq_true.2 ⟨_, tget_mem hjk, by rw [h]; rfl⟩
      have HJ := Lib.hid hjw; have HANY := Lib.hid hany; have HALL := Lib.hid hall
      clear hkr hkid hsz hjw hany hall hjk
      go_wp2_with (fail)
      refine HJ.out.mono ?_
      rintro en w1 ⟨rfl, hb1⟩
      have HW1 := Lib.hid (HW.out.trans (hb1.mono HW.out.size))
      clear hb1 HJ f0 f1 f2
      cases hh : hasB n (tget ts j) with
      | false =>
        have HH := Lib.hid hh
        clear hh
        go_wp2_with (fail)
        go_ret
        exact ⟨(j : Int), rfl, by rw [HALL.out HH.out]; exact decide_eq_true (by omega), HW1.out⟩
      | true =>
        have HH := Lib.hid hh
        clear hh
        go_wp2_with (fail)
        go_roundw
        case rel => exact ⟨j + 1, by omega, by go_num, HW1, Lib.hid (by rw [HANY.out, HH.out]; rfl)⟩
        case measure => simp [intOf]; omega
    · obtain rfl : j = l := by omega
      have hA := HA.out
      rw [List.take_of_length_le (by rw [HL.out]; exact Nat.le_refl _)] at hA
      have HA2 := Lib.hid hA
      clear hA HA
      go_wp2_with (fail)
      go_ret
      exact ⟨-1, rfl, by rw [HA2.out]; rfl, HW.out⟩
set_option maxRecDepth 100000 in
set_option maxHeartbeats 3200000 in
theorem contains_walk (k : Bk) (up : Option Addr) (n : Nat) (ts : List Ty) (p : Option Addr) (l d : Nat) (N : Nat) (w : World) (hN : w.heap[N]? = some (.cells #[.pointer (some ⟨k.b, 0, none⟩)] 28 (0, 0))) (hB : w.heap[k.b]? = some (.cells (bkCells k up n) 59 (0, 0))) (hK : Kids w p ts) (hl : ts.length = l) (hlm : l ≤ maxLen) (hk : KidsLaid w) :
    Calls Tryd.prog 30 #[.slice p l d, .func (.func 31) #[] #[.pointer (some ⟨N, 0, none⟩)]] w fun en w' => en = .returned (.bool (ts.any fun s => !hasB n s)) ∧ Below w.heap.size w w' := by
  have h := index_walk k up n ts p l d N w hN hB hK hl hlm hk
  have H := Lib.hid h
  clear h hN hB hK hl hk
  go_enter Tryd.func30, Tryd.ntmps30
  go_wp2_with (fail)
  refine H.out.mono ?_
  rintro en w1 ⟨i, rfl, hi, hb⟩
  have HI := Lib.hid hi
  clear hi H
  go_wp2_with (fail)
  go_ret
  exact ⟨by rw [← HI.out]; rfl, hb⟩
end Types
end Go.Proofs.YtjchplgapaeagaaDoor
