/-The program's sense: a type is made node by node. (Written by wip/tools/unsense.py.) -/
import Derived.Test.YtjchplgapaeagaaDoorGV19
import Derived.Test.YtjchplgapaeagaaDoorGV14
namespace Go.Proofs.YtjchplgapaeagaaDoor
open Go.RowKit
set_option linter.unusedVariables false
set_option linter.unusedSimpArgs false
namespace Types

theorem infoPtr : (Tryd.prog.info? 95).map (fun i => (i.zero, i.size, i.bytes)) = some (some (.pointer none), 1, 8) := by kernel_rfl
/-- The row's pointers. -/
def ptrs (R : List (Nat × Nat × Ty)) : List Value := R.map fun x => .pointer (some ⟨x.1, x.2.1, none⟩)
theorem ptrs_len (R : List (Nat × Nat × Ty)) : (ptrs R).length = R.length := by unfold ptrs; rw [List.length_map]
theorem ptrs_snoc (R : List (Nat × Nat × Ty)) (b o : Nat) (u : Ty) : ptrs (R ++ [(b, o, u)]) = ptrs R ++ [.pointer (some ⟨b, o, none⟩)] := by unfold ptrs; rw [List.map_append]; rfl
/-- How much is still to be made. -/
def sumW (σ : Nat → Ty) (R : List (Nat × Nat × Ty)) : Nat := (R.map fun x => wt (inst σ x.2.2)).sum
theorem sumW_app (σ : Nat → Ty) (R S : List (Nat × Nat × Ty)) : sumW σ (R ++ S) = sumW σ R + sumW σ S := by unfold sumW; rw [List.map_append, List.sum_append]
theorem sumW_len (σ : Nat → Ty) : ∀ R : List (Nat × Nat × Ty), R.length ≤ sumW σ R
  | [] => Nat.le_refl _
  | x :: R => by
    have h1 := sumW_len σ R
    have h2 := wt_pos (inst σ x.2.2)
    show R.length + 1 ≤ sumW σ (x :: R)
    have h3 : sumW σ (x :: R) = wt (inst σ x.2.2) + sumW σ R := by unfold sumW; rfl
    omega
theorem sumW_kids (σ : Nat → Ty) (g : Nat) (us : List Ty) (h : us.length ≤ 2) : sumW σ (kidsR g us) = wts (us.map (inst σ)) := by
  match us, h with
  | [], _ => rw [List.map_nil, wts_nil]; rfl
  | [x], _ => rw [List.map_cons, wts_cons, List.map_nil, wts_nil]; rfl
  | [x, y], _ => rw [List.map_cons, List.map_cons, wts_cons, wts_cons, List.map_nil, wts_nil]; show wt (inst σ x) + (wt (inst σ y) + 0) = _; rfl
  | x :: y :: z :: r, h2 => exact absurd h2 (by simp)
theorem kidsR_len (g : Nat) (us : List Ty) : (kidsR g us).length = us.length := by unfold kidsR; rw [List.length_map, List.length_range]
theorem kidsR_take (g : Nat) (us : List Ty) (j : Nat) (h : j < us.length) : (kidsR g us).take (j + 1) = (kidsR g us).take j ++ [(g, j * 3, tget us j)] := by
  rw [List.take_add_one]
  unfold kidsR
  rw [List.getElem?_map, List.getElem?_range h]
  rfl
theorem set_at3 {W : World} {b o : Nat} {h h' : Hd} {q q' : Option Addr} {l l' c c' : Nat} (k : At3 W b o h q l c) : At3 (((W.setCell ⟨b, o, none⟩ (.int .u8 h'.k)).setCell ⟨b, o + 1, none⟩ (.int .i64 h'.v)).setCell ⟨b, o + 2, none⟩ (.slice q' l' c')) b o h' q' l' c' := by
  obtain ⟨cur, h0, h1, h2, h3⟩ := k
  have z : o + 2 < cur.size := (Array.getElem?_eq_some_iff.1 h3).1
  refine ⟨((cur.set! o (.int .u8 h'.k)).set! (o + 1) (.int .i64 h'.v)).set! (o + 2) (.slice q' l' c'), by simp [World.setCell, Array.getElem?_modify, h0], ?_, ?_, ?_⟩
  · simp [Array.getElem?_setIfInBounds]; omega
  · simp [Array.getElem?_setIfInBounds]; omega
  · simp [Array.getElem?_setIfInBounds]; omega
theorem set_at3c {W : World} {b o : Nat} {h : Hd} {q q' : Option Addr} {l l' c c' : Nat} (k : At3 W b o h q l c) : At3 (W.setCell ⟨b, o + 2, none⟩ (.slice q' l' c')) b o h q' l' c' := by
  obtain ⟨cur, h0, h1, h2, h3⟩ := k
  have z : o + 2 < cur.size := (Array.getElem?_eq_some_iff.1 h3).1
  refine ⟨cur.set! (o + 2) (.slice q' l' c'), by simp [World.setCell, Array.getElem?_modify, h0], ?_, ?_, ?_⟩
  · rw [← h1]; simp [Array.getElem?_setIfInBounds]
  · rw [← h2]; simp [Array.getElem?_setIfInBounds]
  · simp [Array.getElem?_setIfInBounds]; omega
theorem fr_set {W : World} {b o i : Nat} (hi : o ≤ i ∧ i < o + 3) (v : Value) : Fr W (W.setCell ⟨b, i, none⟩ v) b o := fun b' cur hc => by
  by_cases e : b' = b
  · subst e
    refine ⟨cur.set! i v, by simp [World.setCell, Array.getElem?_modify, hc], fun j hj => ?_⟩
    have : i ≠ j := by rcases hj with h | h | h <;> omega
    simp [Array.getElem?_setIfInBounds, this]
  · exact ⟨cur, (Below.heap_setCell _ _ _ _ e).trans hc, fun _ _ => rfl⟩
def SnEnd (P : Nat → Bool) (k : Bk) (n : Nat) (g : Nat → Bool) (nm : Nat → Nat) (st : Nat → Option Ty) (T : Ty) (w : World) (en : Ending) (w' : World) : Prop :=
  ∃ (h : Hd) (q : Option Addr) (l c : Nat), en = .returned (.agg #[.int .u8 h.k, .int .i64 h.v, .slice q l c]) ∧ TyIs (veil (from_ w.heap.size) w') h q l c T ∧ (∃ e', TBk P w' k none n e' g ∧ Rep e' nm st) ∧ Kp (fun b => decide (b ≠ k.s)) w w'
/-- The state between two nodes. -/
structure SnV (P : Nat → Bool) (k : Bk) (n : Nat) (g : Nat → Bool) (nm : Nat → Nat) (st : Nat → Option Ty) (σ : Nat → Ty) (T : Ty) (w : World) (R : List (Nat × Nat × Ty)) (W : World) : Prop where
  ri : RI P w.heap.size n W R
  nd : Nd σ (w.heap.size + 2) W R w.heap.size 0 T
  book : ∃ e', TBk P W k none n e' g ∧ Rep e' nm st
  kp : Kp (fun b => decide (b ≠ k.s)) w W
  box : W.heap[w.heap.size + 1]? = some (.cells #[.int .u8 0, .int .i64 0, .slice none 0 0] 25 (0, 0))
  low : (k.b < w.heap.size ∧ k.s < w.heap.size ∧ k.i < w.heap.size) ∧ w.heap.size + 2 ≤ W.heap.size
  ne : ∀ b o u, (b, o, u) ∈ R → b ≠ w.heap.size + 1
theorem SnV.more {P : Nat → Bool} {k : Bk} {n : Nat} {g : Nat → Bool} {nm : Nat → Nat} {st : Nat → Option Ty} {σ : Nat → Ty} {T : Ty} {w W W' : World} {R : List (Nat × Nat × Ty)} (hP : ∀ b, w.heap.size ≤ b → P b = false) (h : SnV P k n g nm st σ T w R W) (hs : SameT W W') (hk : Below w.heap.size W W') : SnV P k n g nm st σ T w R W' := by
  obtain ⟨e', h1, h2⟩ := h.book
  have hr : Reads (veil P W) (veil P W') := veil_to fun b hb hp => ⟨hp, hk.block b (by
    rcases Nat.lt_or_ge b w.heap.size with q | q
    · exact q
    · rw [hP b q] at hp; cases hp)⟩
  exact ⟨h.ri.same hs hr, h.nd.same hs, ⟨e', h1.low hk hP h.low.1 (fun x hx => by cases hx), h2⟩, h.kp.low hk, (hs _ _ h.box).trans h.box, ⟨h.low.1, Nat.le_trans h.low.2 hk.size⟩, h.ne⟩
theorem sameT_alloc {W : World} (O : Obj) : SameT W (W.alloc O) := fun b' cur hc => (al_new O).block _ (lt_of_block hc)
theorem sameT_grown {W W' : World} {v : Value} {B n s : Nat} {t : TypeId} {xs : List Value} (hown : W.ownsRow B t s v n xs) (ht : t ≠ 25) (hg : W.grownBy W' v.ownBlock) : SameT W W' := fun b' cur hc => hg.block b' (lt_of_block hc) fun e => by
  rcases hown.2 with ⟨hv, _⟩ | ⟨g, cap, cu, hv, _, hh, _⟩
  · rw [hv] at e; cases e
  · rw [hv] at e
    have e : some b' = some g := e
    injection e with e
    subst e
    rw [hc] at hh
    injection hh with hh
    injection hh with _ hh
    exact ht hh.symm

/-- What stays: what lies below, but for the book's map. -/
def Lo (N s : Nat) (b : Nat) : Bool := decide (b ≠ s ∧ b < N)
theorem st_block {P : Nat → Bool} {w : World} {k : Bk} {n : Nat} {e : Nat → Option Ty} {g : Nat → Bool} (h : TBk P w k none n e g) {cur : Array Value} {t : TypeId} {z : Nat × Nat} : w.heap[k.s]? ≠ some (.cells cur t z) := fun e => by
  obtain ⟨F, ⟨_, _, ⟨es, clock, hb, _⟩, _⟩, _⟩ := h.me.st
  rw [hb] at e
  cases e
theorem sameT_book {P : Nat → Bool} {W W' : World} {k : Bk} {n : Nat} {e : Nat → Option Ty} {g : Nat → Bool} (h : TBk P W k none n e g) (hk : Kp (fun b => decide (b ≠ k.s)) W W') : SameT W W' := fun b' cur hc => hk.block b' (lt_of_block hc) (decide_eq_true fun e => by subst e; exact st_block h hc)
theorem fr_same {W W' : World} (h : SameT W W') (b o : Nat) : Fr W W' b o := Fr.of h b o
/-- A variable's stand-in, or the type itself. -/
structure SnT (σ : Nat → Ty) (n : Nat) (u t : Ty) : Prop where
  h : (inst σ u).h = t.h
  ks : (inst σ u).ks = t.ks.map (inst σ)
  may : mayT t = true
  lt : ∀ v ∈ varsT t, v < n
theorem snT_self {σ : Nat → Ty} {n : Nat} {u : Ty} (hm : mayT u = true) (hv : ∀ v ∈ varsT u, v < n) (hk : u.h.k ≠ 5) : SnT σ n u u := ⟨(inst_head hk).1, (inst_head hk).2, hm, hv⟩
theorem snT_shown {n : Nat} {nm : Nat → Nat} {st : Nat → Option Ty} {g : Nat → Bool} {r : Nat → Nat} (hb : Bo n nm st g r) {x : Nat} (hx : x < n) : SnT (senB n nm st r) n (tyV x) (shT nm st x) := by
  have hi : inst (senB n nm st r) (tyV x) = senB n nm st r (nm x) := (inst_var _ x).trans (hb.sen_nm x)
  have hnx : nm x < n := Nat.lt_of_le_of_lt (hb.le x) hx
  unfold shT
  cases hs : st (nm x) with
  | none =>
    have e : senB n nm st r (nm x) = tyV (nm x) := hb.sen_open (hb.id x) hs
    show SnT _ _ _ (tyV (nm x))
    exact ⟨by rw [hi, e], by rw [hi, e]; rfl, may_V _, fun v hv => by rw [vars_var] at hv; simp at hv; omega⟩
  | some t =>
    obtain ⟨h1, h4, h3, h5⟩ := hb.name _ _ hs
    have e : senB n nm st r (nm x) = inst (senB n nm st r) t := hb.isSen.is.2 _ _ hs
    show SnT _ _ _ t
    exact ⟨by rw [hi, e]; exact (inst_head h3).1, by rw [hi, e]; exact (inst_head h3).2, h4, h5⟩
/-- Where the pointers' blocks stay. -/
def SameP (W W' : World) : Prop := ∀ (b' : Nat) (cur : Array Value), W.heap[b']? = some (Obj.cells cur 95 (0, 0)) → W'.heap[b']? = W.heap[b']?
theorem own_sameP {W W' : World} {B n : Nat} {v : Value} {xs : List Value} (h : W.ownsRow B 95 1 v n xs) (hs : SameP W W') : W'.ownsRow B 95 1 v n xs :=
  ⟨h.1, h.2.elim .inl fun ⟨b, cap, cur, h1, h2, h3, h4⟩ => .inr ⟨b, cap, cur, h1, h2, (hs _ _ h3).trans h3, h4⟩⟩
theorem sameP_book {P : Nat → Bool} {W W' : World} {k : Bk} {n : Nat} {e : Nat → Option Ty} {g : Nat → Bool} (h : TBk P W k none n e g) (hk : Kp (fun b => decide (b ≠ k.s)) W W') : SameP W W' := fun b' cur hc => hk.block b' (lt_of_block hc) (decide_eq_true fun e => by subst e; exact st_block h hc)
theorem at3_ne {W : World} {b o : Nat} {h : Hd} {q : Option Addr} {l c : Nat} (k : At3 W b o h q l c) {b' : Nat} {cur : Array Value} (hc : W.heap[b']? = some (Obj.cells cur 95 (0, 0))) : b' ≠ b := fun e => by
  obtain ⟨c0, h0, _⟩ := k
  subst e
  rw [hc] at h0
  injection h0 with h0
  injection h0 with _ h0
  exact absurd h0 (by decide)
theorem sameP_set {W : World} {b o : Nat} {h : Hd} {q : Option Addr} {l c : Nat} (k : At3 W b o h q l c) (i : Nat) (v : Value) : SameP W (W.setCell ⟨b, i, none⟩ v) := fun b' cur hc => Below.heap_setCell _ _ _ _ (at3_ne k hc)
theorem sameP_set3 {W : World} {b o : Nat} {h : Hd} {q : Option Addr} {l c : Nat} (k : At3 W b o h q l c) (i i' i'' : Nat) (v v' v'' : Value) : SameP W (((W.setCell ⟨b, i, none⟩ v).setCell ⟨b, i', none⟩ v').setCell ⟨b, i'', none⟩ v'') := fun b' cur hc => (Below.heap_setCell _ _ _ _ (at3_ne k hc)).trans ((Below.heap_setCell _ _ _ _ (at3_ne k hc)).trans (Below.heap_setCell _ _ _ _ (at3_ne k hc)))
theorem lo_new {N s b : Nat} (h : N ≤ b) : Lo N s b = false := decide_eq_false fun e => by omega
theorem new_ptr {w : World} {N b o : Nat} {ty : TypeId} (hN : N = w.heap.size) (j : Nat) : ∀ u, [Value.pointer (some ⟨b, o, none⟩)][j]? = some u → (w.alloc (.cells #[.pointer (some ⟨b, o, none⟩)] ty)).cell? ((⟨N, 0, none⟩ : Addr).add j) = some u := by
  intro u hu
  subst hN
  rw [Addr.add_lit, Nat.zero_add, World.cell?_alloc_mark]
  match j, hu with
  | 0, e => simpa using e
  | j + 1, e => simp at e
theorem one_ptr (b o : Nat) : ∀ u ∈ [Value.pointer (some ⟨b, o, none⟩)], u.oneCell' = true := by
  intro u hu
  rw [List.mem_singleton] at hu
  subst hu; rfl
theorem below_sets {W : World} {N b : Nat} (h : N ≤ b) (i i' i'' : Nat) (v v' v'' : Value) : Below N W (((W.setCell ⟨b, i, none⟩ v).setCell ⟨b, i', none⟩ v').setCell ⟨b, i'', none⟩ v'') := (((Below.refl _ _).setCell (p := ⟨b, i, none⟩) h _).setCell (p := ⟨b, i', none⟩) h _).setCell (p := ⟨b, i'', none⟩) h _
theorem below_set {W : World} {N b : Nat} (h : N ≤ b) (i : Nat) (v : Value) : Below N W (W.setCell ⟨b, i, none⟩ v) := (Below.refl _ _).setCell (p := ⟨b, i, none⟩) h _
theorem below_grown {W W' : World} {v : Value} {B n s N : Nat} {t : TypeId} {xs : List Value} (hown : W.ownsRow B t s v n xs) (hN : N ≤ B) (hg : W.grownBy W' v.ownBlock) (hz : N ≤ W.heap.size) : Below N W W' :=
  ⟨hg.os, hg.tape, hg.output, hg.size, fun b hb => hg.block b (by omega) fun e => by have := (own_row_lt hown e.symm).2; omega⟩
theorem SnV.made {P : Nat → Bool} {k : Bk} {n : Nat} {g : Nat → Bool} {nm : Nat → Nat} {st : Nat → Option Ty} {σ : Nat → Ty} {T : Ty} {w W W' : World} {rest : List (Nat × Nat × Ty)} {b o : Nat} {u t : Ty} {q : Option Addr} {c gg : Nat} (hP : ∀ b, w.heap.size ≤ b → P b = false)
    (h : SnV P k n g nm st σ T w (rest ++ [(b, o, u)]) W) (hf : Fr W W' b o) (hk : Kp (Lo w.heap.size k.s) W W') (hbk : ∃ e', TBk P W' k none n e' g ∧ Rep e' nm st) (hbx : W'.heap[w.heap.size + 1]? = W.heap[w.heap.size + 1]?)
    (ht : SnT σ n u t) (ha : At3 W' b o t.h q t.ks.length c) (hok : HdOk t.h) (hc : t.ks.length ≤ c ∧ c ≤ maxLen) (hq : 0 < t.ks.length → q = some ⟨gg, 0, none⟩) (hg : W.heap.size ≤ gg)
    (hus : ∀ j, j < t.ks.length → ∃ h q l c, At3 W' gg (j * 3) h q l c ∧ TyIs (veil P W') h q l c (tget t.ks j)) : SnV P k n g nm st σ T w (rest ++ kidsR gg t.ks) W' := by
  have hps : P k.s = false := by obtain ⟨_, h1, _⟩ := h.book; exact h1.me.ps
  have hr : Reads (veil P W) (veil P W') := veil_to fun b hb hp => ⟨hp, hk.block b hb (decide_eq_true ⟨fun e => (by subst e; rw [hps] at hp; cases hp), (by
    rcases Nat.lt_or_ge b w.heap.size with q | q
    · exact q
    · rw [hP b q] at hp; cases hp)⟩)⟩
  have hB : w.heap.size + 2 ≤ gg := Nat.le_trans h.low.2 hg
  refine ⟨h.ri.step hf (fun _ => trivial) hr hg (by omega) fun j hj => ⟨may_kid ht.may hj, fun v hv => ht.lt v ?_, hus j hj⟩, Nd.step h.ri hf ha hok ht.h ht.ks hc (fun h0 => ⟨hq h0, hB⟩) hg h.nd, hbk, ?_, hbx.trans h.box, ⟨h.low.1, Nat.le_trans h.low.2 hk.size⟩, fun b' o' u' hm' => ?_⟩
  · rw [varsT_eq]
    exact List.mem_append_right _ (mem_varsK.2 ⟨_, tget_mem hj, hv⟩)
  · exact ⟨hk.os.trans h.kp.os, hk.tape.trans h.kp.tape, hk.output.trans h.kp.output, Nat.le_trans h.kp.size hk.size, fun b hb hp => (hk.block b (Nat.lt_of_lt_of_le hb h.kp.size) (decide_eq_true ⟨of_decide_eq_true hp, hb⟩)).trans (h.kp.block b hb hp)⟩
  · rcases List.mem_append.1 hm' with hm' | hm'
    · exact h.ne _ _ _ (List.mem_append_left _ hm')
    · obtain ⟨j, _, e⟩ := mem_kidsR.1 hm'
      cases e
      omega
theorem sumW_made {σ : Nat → Ty} {n : Nat} {u t : Ty} (h : SnT σ n u t) (rest : List (Nat × Nat × Ty)) (b o gg : Nat) : sumW σ (rest ++ [(b, o, u)]) = sumW σ (rest ++ kidsR gg t.ks) + 1 := by
  have h2 : t.ks.length ≤ 2 := by rcases (may_node h.may).1 with ⟨_, e⟩ | ⟨_, e⟩ | ⟨_, e⟩ <;> omega
  have h3 : sumW σ [(b, o, u)] = wt (inst σ u) := by unfold sumW; simp
  rw [sumW_app, sumW_app, sumW_kids σ gg _ h2, h3, wt_ks, h.ks]
  omega
theorem snoc_of {α : Type} {l : List α} (h : 0 < l.length) : ∃ r x, l = r ++ [x] := ⟨l.dropLast, l.getLast (List.length_pos_iff.1 h), (List.dropLast_concat_getLast _).symm⟩
set_option maxRecDepth 100000 in
set_option maxHeartbeats 12800000 in
theorem sense_walk (P : Nat → Bool) (k : Bk) (n : Nat) (e : Nat → Option Ty) (g : Nat → Bool) (nm : Nat → Nat) (st : Nat → Option Ty) (r : Nat → Nat) (h : Hd) (p : Option Addr) (l c : Nat) (t : Ty) (w : World)
    (hT : TBk P w k none n e g) (hR : Rep e nm st) (hb : Bo n nm st g r) (hTy : TyIs (veil P w) h p l c t) (hm : mayT t = true) (hv : ∀ v ∈ varsT t, v < n) (hP : ∀ b, w.heap.size ≤ b → P b = false) (hn : n < 1000000000) (hw : wt (inst (senB n nm st r) t) ≤ 1000000000) :
    Calls Tryd.prog 38 #[.pointer (some ⟨k.b, 0, none⟩), .agg #[.int .u8 h.k, .int .i64 h.v, .slice p l c]] w (SnEnd P k n g nm st (inst (senB n nm st r) t) w) := by
  obtain ⟨i0, hi, hz0, hz1, hz2⟩ := info_parts infoPtr
  obtain ⟨σ, hσ⟩ : ∃ σ, σ = senB n nm st r := ⟨_, rfl⟩
  have hlow := hT.all_low.1
  have z1 : (w.alloc (.cells #[.int .u8 h.k, .int .i64 h.v, .slice p l c] 25)).heap.size = w.heap.size + 1 := by simp
  have z2 : ((w.alloc (.cells #[.int .u8 h.k, .int .i64 h.v, .slice p l c] 25)).alloc (.cells #[.int .u8 0, .int .i64 0, .slice none 0 0] 25)).heap.size = w.heap.size + 2 := by simp
  have z3 : (((w.alloc (.cells #[.int .u8 h.k, .int .i64 h.v, .slice p l c] 25)).alloc (.cells #[.int .u8 0, .int .i64 0, .slice none 0 0] 25)).alloc (.cells #[.pointer (some ⟨w.heap.size, 0, none⟩)] 95)).heap.size = w.heap.size + 3 := by simp
  have b1 := al_new (W := w) (.cells #[.int .u8 h.k, .int .i64 h.v, .slice p l c] 25)
  have b2 := al_new (W := w.alloc (.cells #[.int .u8 h.k, .int .i64 h.v, .slice p l c] 25)) (.cells #[.int .u8 0, .int .i64 0, .slice none 0 0] 25)
  have b3 := al_new (W := (w.alloc (.cells #[.int .u8 h.k, .int .i64 h.v, .slice p l c] 25)).alloc (.cells #[.int .u8 0, .int .i64 0, .slice none 0 0] 25)) (.cells #[.pointer (some ⟨w.heap.size, 0, none⟩)] 95)
  rw [z1] at b2; rw [z2] at b3
  have x3 := (b3.block _ (by omega)).trans ((b2.block _ (by omega)).trans (heap_alloc_new w (.cells #[.int .u8 h.k, .int .i64 h.v, .slice p l c] 25)))
  have x4 := heap_alloc_new (w.alloc (.cells #[.int .u8 h.k, .int .i64 h.v, .slice p l c] 25)) (.cells #[.int .u8 0, .int .i64 0, .slice none 0 0] 25)
  rw [z1] at x4
  have x4 := (b3.block _ (by omega)).trans x4
  have x5 := heap_alloc_new ((w.alloc (.cells #[.int .u8 h.k, .int .i64 h.v, .slice p l c] 25)).alloc (.cells #[.int .u8 0, .int .i64 0, .slice none 0 0] 25)) (.cells #[.pointer (some ⟨w.heap.size, 0, none⟩)] 95)
  rw [z2] at x5
  have hbb : Below w.heap.size w (((w.alloc (.cells #[.int .u8 h.k, .int .i64 h.v, .slice p l c] 25)).alloc (.cells #[.int .u8 0, .int .i64 0, .slice none 0 0] 25)).alloc (.cells #[.pointer (some ⟨w.heap.size, 0, none⟩)] 95)) := ((b1.alloc (by omega) _).alloc (by omega) _)
  rw [← hσ] at hw
  have HV0 := Lib.hid (show SnV P k n g nm st σ (inst σ t) w [(w.heap.size, 0, t)] (((w.alloc (.cells #[.int .u8 h.k, .int .i64 h.v, .slice p l c] 25)).alloc (.cells #[.int .u8 0, .int .i64 0, .slice none 0 0] 25)).alloc (.cells #[.pointer (some ⟨w.heap.size, 0, none⟩)] 95)) from
    ⟨⟨by simp, fun b' o' u' hm' => by
      rw [List.mem_singleton] at hm'
      cases hm'
      exact ⟨Nat.le_refl _, rfl, hm, hv, h, p, l, c, ⟨_, x3, rfl, rfl, rfl⟩, (Kp.of_below (P := P) hbb).ty hTy⟩⟩, .wait (by simp), ⟨e, hT.below hbb, hR⟩, Kp.of_below hbb, x4, ⟨hlow, by omega⟩, fun b' o' u' hm' => by rw [List.mem_singleton] at hm'; cases hm'; omega⟩)
  have HO0 := Lib.hid (show (((w.alloc (.cells #[.int .u8 h.k, .int .i64 h.v, .slice p l c] 25)).alloc (.cells #[.int .u8 0, .int .i64 0, .slice none 0 0] 25)).alloc (.cells #[.pointer (some ⟨w.heap.size, 0, none⟩)] 95)).ownsRow (w.heap.size + 2) 95 1 (.slice (some ⟨w.heap.size + 2, 0, none⟩) 1 1) 1 (ptrs [(w.heap.size, 0, t)]) from ⟨rfl, .inr ⟨_, 1, _, rfl, Nat.le_refl _, x5, Nat.le_refl _, by unfold maxLen; omega, rfl, rfl⟩⟩)
  have HW := Lib.hid hw; have HP := Lib.hid hP; have HN := Lib.hid hn; have HB := Lib.hid hb; have HSG := Lib.hid hσ; have HI := Lib.hid hi; have HZ0 := Lib.hid hz0; have HZ1 := Lib.hid hz1; have HZ2 := Lib.hid hz2
  clear hσ hlow z1 z2 z3 b1 b2 b3 x3 x4 x5 hbb hw hT hR hb hTy hm hv hP hn hi hz0 hz1 hz2
  go_enter Tryd.func38, Tryd.ntmps38
  go_upto_region 2 with (fail)
  go_loopg [5] (wt (inst σ t)) (fun gk row wr => ∃ (R : List (Nat × Nat × Ty)) (v : Value), row = v ∧ Hid (wr.ownsRow (w.heap.size + 2) 95 1 v R.length (ptrs R)) ∧ Hid (SnV P k n g nm st σ (inst σ t) w R wr) ∧ Hid (sumW σ R ≤ gk ∧ gk ≤ 1000000000))
  case atStart => exact ⟨[(w.heap.size, 0, t)], _, rfl, HO0, HV0, Lib.hid ⟨by show wt (inst σ t) + 0 ≤ _; omega, HW.out⟩⟩
  case round =>
    obtain ⟨R, v, hv, HO, HV, HG⟩ := hrel
    subst u5
    clear HO0 HV0
    obtain ⟨a, ca, hva, hca, hnc⟩ := own_slice HO.out
    subst hva
    rcases Nat.eq_zero_or_pos R.length with hr0 | hrp
    · obtain rfl : R = [] := List.eq_nil_of_length_eq_zero hr0
      obtain ⟨h9, q9, l9, c9, hat, hty⟩ := HV.out.nd.fin
      obtain ⟨⟨y0, y1, y2⟩, -, yl⟩ := hat.cell
      obtain ⟨⟨g0, g1, g2⟩, ⟨gf0, gf1, gf2⟩, gl⟩ := c3 HV.out.box
      have HTY := Lib.hid hty
      clear hat hty hca hnc
      go_wp2_with (fail)
      have hx := HV.out.box
      have hz := set3b (x := .int .u8 h9.k) (y := .int .i64 h9.v) (z := .slice q9 l9 c9) hx
      have hball : Below (w.heap.size + 1) wr (((wr.setCell ⟨w.heap.size + 1, 0, none⟩ (.int .u8 h9.k)).setCell ⟨w.heap.size + 1, 1, none⟩ (.int .i64 h9.v)).setCell ⟨w.heap.size + 1, 2, none⟩ (.slice q9 l9 c9)) := (((Below.refl _ _).setCell (p := ⟨w.heap.size + 1, 0, none⟩) (Nat.le_refl _) _).setCell (p := ⟨w.heap.size + 1, 1, none⟩) (Nat.le_refl _) _).setCell (p := ⟨w.heap.size + 1, 2, none⟩) (Nat.le_refl _) _
      have hoth : ∀ b', b' ≠ w.heap.size + 1 → (((wr.setCell ⟨w.heap.size + 1, 0, none⟩ (.int .u8 h9.k)).setCell ⟨w.heap.size + 1, 1, none⟩ (.int .i64 h9.v)).setCell ⟨w.heap.size + 1, 2, none⟩ (.slice q9 l9 c9)).heap[b']? = wr.heap[b']? := fun b' e => (Below.heap_setCell _ _ _ _ e).trans ((Below.heap_setCell _ _ _ _ e).trans (Below.heap_setCell _ _ _ _ e))
      generalize ((wr.setCell ⟨w.heap.size + 1, 0, none⟩ (.int .u8 h9.k)).setCell ⟨w.heap.size + 1, 1, none⟩ (.int .i64 h9.v)).setCell ⟨w.heap.size + 1, 2, none⟩ (.slice q9 l9 c9) = w9 at *
      clear g0 g1 g2 gf0 gf1 gf2 gl y0 y1 y2 yl
      obtain ⟨⟨g0, g1, g2⟩, -, gl⟩ := c3 hz
      refine bodyPost_ret (v := .agg #[.int .u8 h9.k, .int .i64 h9.v, .slice q9 l9 c9]) (by simp [results, Tryd.results38, go_sem, g0, g1, g2, gl]) rfl ?_
      have hb0 : Below w.heap.size wr w9 := hball.mono (Nat.le_succ _)
      obtain ⟨e', h1, h2⟩ := HV.out.book
      show SnEnd P k n g nm st (inst (senB n nm st r) t) w _ _
      rw [← HSG.out]
      exact ⟨h9, q9, l9, c9, rfl, HTY.out.reads' (veil_to fun b' _ hp => by
        have hp : w.heap.size + 2 ≤ b' := of_decide_eq_true hp
        exact ⟨decide_eq_true (by omega), hoth b' (by omega)⟩), ⟨e', h1.low hb0 HP.out HV.out.low.1 (fun x hx => by cases hx), h2⟩, HV.out.kp.low hb0⟩
    · obtain ⟨rest, ⟨b, o, u⟩, hR⟩ := snoc_of hrp
      subst hR
      obtain ⟨m, hm⟩ : ∃ m, m = rest.length := ⟨_, rfl⟩
      have hrl : (rest ++ [(b, o, u)]).length = m + 1 := by rw [List.length_append, hm]; rfl
      have hown := HO.out
      rw [hrl] at hown hnc ⊢
      obtain ⟨gb, rfl, hgb⟩ := own_at hown (Nat.succ_pos m)
      have p0 : wr.cell? ⟨gb, m, none⟩ = some (.pointer (some ⟨b, o, none⟩)) := row_cell hown (by rw [ptrs_snoc, hm, ← ptrs_len, List.getElem?_concat_length])
      have hown' := own_pop hown (m := m) (Nat.le_succ m) (Nat.succ_pos m)
      rw [Nat.mul_one, ptrs_snoc, List.take_left' (by rw [ptrs_len, hm])] at hown'
      have hsl := sumW_len σ (rest ++ [(b, o, u)])
      rw [hrl] at hsl
      have hmc : (m : Int) ≤ (ca : Int) := by omega
      have hmi : (m : Int) < 8000000000 := by have := HG.out; omega
      obtain ⟨-, hom, hmay, hlt, h, q, l, c4, hat, hty⟩ := HV.out.ri.ent b o u (by simp)
      obtain rfl : u.h = h := hty.head
      obtain rfl : u.ks.length = l := hty.len
      obtain ⟨⟨y0, y1, y2⟩, ⟨f0, f1, f2⟩, yl⟩ := hat.cell
      have HOW := Lib.hid hown'; have HM := Lib.hid hm; have HAT := Lib.hid hat; have HTY := Lib.hid hty; have HMAY := Lib.hid (And.intro hmay hlt); have HGB := Lib.hid hgb
      clear hown hown' hm hat hty hmay hlt hgb hrl hsl hrp hom
      have hbN : w.heap.size ≤ b ∧ b ≠ w.heap.size + 1 := ⟨(HV.out.ri.ent b o u (by simp)).1, HV.out.ne b o u (by simp)⟩
      have hom : o % 3 = 0 := (HV.out.ri.ent b o u (by simp)).2.1
      have HBN := Lib.hid (And.intro hbN hom)
      clear hbN hom
      by_cases hk : u.h.k = 5
      · have hu := is_var HMAY.out.1 hk
        obtain ⟨x, hx⟩ : ∃ x, x = u.h.v.toNat := ⟨_, rfl⟩
        rw [← hx] at hu
        clear hx hk
        subst hu
        have hxn : x < n := HMAY.out.2 x (by rw [vars_var]; simp)
        replace y0 : wr.cell? ⟨b, o, none⟩ = some (.int .u8 5) := y0
        replace y1 : wr.cell? ⟨b, o + 1, none⟩ = some (.int .i64 (x : Int)) := y1
        clear y2 f0 f1 f2
        obtain ⟨e0, hT0, hR0⟩ := HV.out.book
        have hwz : w.heap.size ≤ wr.heap.size := by have := HV.out.low.2; omega
        have hsh := shown_walk0 P k none n e0 g nm st x wr hT0 (by rw [cmb_none]; exact hR0) hxn (fun b hb => HP.out b (Nat.le_trans hwz hb))
        have HSH := Lib.hid hsh; have HT0 := Lib.hid hT0; have HXN := Lib.hid hxn
        clear hsh hT0 hR0 hxn hwz
        go_wp2_with (fail)
        refine HSH.out.mono ?_
        rintro en w2 ⟨h2, q3, l2, c3, rfl, hty2, e2, hT2, hR2, hk2⟩
        rw [cmb_none] at hR2
        obtain ⟨tt, htt⟩ : ∃ tt, tt = shT nm st x := ⟨_, rfl⟩
        rw [← htt] at hty2
        obtain rfl : tt.h = h2 := hty2.head
        obtain rfl : tt.ks.length = l2 := hty2.len
        have hs3 : SnT σ n (tyV x) tt := by rw [HSG.out, htt]; exact snT_shown HB.out HXN.out
        have hst2 := sameT_book HT0.out hk2
        have ha2 := hst2.at3 HAT.out
        clear y0 y1 yl
        obtain ⟨⟨y0, y1, y2⟩, ⟨f0, f1, f2⟩, yl⟩ := ha2.cell
        have HA2 := Lib.hid ha2; have HTY2 := Lib.hid hty2; have HT2 := Lib.hid (show ∃ e', TBk P w2 k none n e' g ∧ Rep e' nm st from ⟨e2, hT2, hR2⟩); have HK2 := Lib.hid hk2; have HS3 := Lib.hid hs3; have HSM2 := Lib.hid hst2; have HO2 := Lib.hid (own_sameP HOW.out (sameP_book HT0.out hk2))
        clear ha2 hty2 hT2 hR2 hk2 hs3 hst2 htt HSH
        go_upto_region 7 with (fail)
        clear y0 y1 y2 f0 f1 f2 yl
        have ha3 := set_at3 (h' := tt.h) (q' := q3) (l' := tt.ks.length) (c' := c3) HA2.out
        have hb3 := below_sets (W := w2) HBN.out.1.1 o (o + 1) (o + 2) (.int .u8 tt.h.k) (.int .i64 tt.h.v) (.slice q3 tt.ks.length c3)
        have hp3 := sameP_set3 HA2.out o (o + 1) (o + 2) (.int .u8 tt.h.k) (.int .i64 tt.h.v) (.slice q3 tt.ks.length c3)
        have hf3 := ((fr_same HSM2.out b o).trans (((fr_set (W := w2) (b := b) (o := o) (i := o) (by omega) (.int .u8 tt.h.k)).trans (fr_set (i := o + 1) (by omega) (.int .i64 tt.h.v))).trans (fr_set (i := o + 2) (by omega) (.slice q3 tt.ks.length c3))))
        have hx3 : ((((w2.setCell ⟨b, o, none⟩ (.int .u8 tt.h.k)).setCell ⟨b, o + 1, none⟩ (.int .i64 tt.h.v)).setCell ⟨b, o + 2, none⟩ (.slice q3 tt.ks.length c3))).heap[w.heap.size + 1]? = wr.heap[w.heap.size + 1]? := ((Below.heap_setCell _ _ _ _ (fun e => HBN.out.1.2 e.symm)).trans ((Below.heap_setCell _ _ _ _ (fun e => HBN.out.1.2 e.symm)).trans (Below.heap_setCell _ _ _ _ (fun e => HBN.out.1.2 e.symm)))).trans (HSM2.out _ _ HV.out.box)
        generalize (((w2.setCell ⟨b, o, none⟩ (.int .u8 tt.h.k)).setCell ⟨b, o + 1, none⟩ (.int .i64 tt.h.v)).setCell ⟨b, o + 2, none⟩ (.slice q3 tt.ks.length c3)) = w3 at *
        have hk3 : Kp (Lo w.heap.size k.s) wr w3 := ⟨hb3.os.trans HK2.out.os, hb3.tape.trans HK2.out.tape, hb3.output.trans HK2.out.output, Nat.le_trans HK2.out.size hb3.size, fun b' hb' hp => (hb3.block b' (of_decide_eq_true hp).2).trans (HK2.out.block b' hb' (decide_eq_true (of_decide_eq_true hp).1))⟩
        have hbk3 : ∃ e', TBk P w3 k none n e' g ∧ Rep e' nm st := by
          obtain ⟨e', k1, k2⟩ := HT2.out
          exact ⟨e', k1.low hb3 HP.out HV.out.low.1 (fun x hx => by cases hx), k2⟩
        have hty3 : TyIs (veil P w3) tt.h q3 tt.ks.length c3 tt := HTY2.out.reads' (veil_to fun b' _ hp => ⟨hp, hb3.block b' (by
          rcases Nat.lt_or_ge b' w.heap.size with q | q
          · exact q
          · rw [HP.out b' q] at hp; cases hp)⟩)
        have HA3 := Lib.hid ha3; have HF3 := Lib.hid hf3; have HX3 := Lib.hid (fun (c : Obj) (hc : wr.heap[w.heap.size + 1]? = some c) => hx3.trans hc); have HK3 := Lib.hid hk3; have HB3 := Lib.hid hbk3; have HTY3 := Lib.hid hty3; have HO3 := Lib.hid (own_sameP HO2.out hp3)
        clear ha3 hb3 hp3 hf3 hx3 hk3 hbk3 hty3 HA2 HTY2 HT2 HK2 HSM2 HO2 HAT HTY
        have hl2 : tt.ks.length ≤ 2 := by rcases (may_node HS3.out.may).1 with ⟨_, e⟩ | ⟨_, e⟩ | ⟨_, e⟩ <;> omega
        have hcl := cloneT_walk P tt.ks q3 c3 w3 HTY3.out.kids hl2
        obtain ⟨⟨y0, y1, y2⟩, ⟨f0, f1, f2⟩, yl⟩ := HA3.out.cell
        have HCL := Lib.hid hcl; have HL2 := Lib.hid hl2
        clear hcl hl2
        go_wp2_with (fail)
        refine HCL.out.mono ?_
        rintro en w4 ⟨q4, d4, rfl, hl4, hc4, hb4, hkids⟩
        have hs4 : SameT w3 w4 := fun b' cur hc => hb4.block b' (lt_of_block hc)
        have ha4 := hs4.at3 HA3.out
        have HYL := Lib.hid yl
        clear y0 y1 y2 f0 f1 f2 yl
        obtain ⟨⟨y0, y1, y2⟩, ⟨f0, f1, f2⟩, yl⟩ := ha4.cell
        have hz4 : wr.heap.size ≤ w3.heap.size := HK3.out.size
        obtain ⟨gg, hgg, hqg⟩ : ∃ gg, w3.heap.size ≤ gg ∧ (0 < tt.ks.length → q4 = some ⟨gg, 0, none⟩ ∧ ∀ j, j < tt.ks.length → ∃ h q' l' c', At3 w4 gg (j * 3) h q' l' c' ∧ TyIs (veil P w4) h q' l' c' (tget tt.ks j)) := by
          rcases Nat.eq_zero_or_pos tt.ks.length with h0 | h0
          · exact ⟨w3.heap.size, Nat.le_refl _, fun h => by omega⟩
          · obtain ⟨gg, k1, k2, k3⟩ := hkids h0
            exact ⟨gg, k2, fun _ => ⟨k1, k3⟩⟩
        have HH4 := Lib.hid (And.intro (And.intro hl4 hc4) (And.intro hgg hz4)); have HQG := Lib.hid hqg; have HB4 := Lib.hid hb4; have HS4 := Lib.hid hs4; have HA4 := Lib.hid ha4
        clear hl4 hc4 hgg hz4 hqg hb4 hs4 ha4 hkids HCL
        go_upto_region 8 with (fail)
        clear y0 y1 y2 f0 f1 f2 yl
        have hgb : gg ≠ b := by have := HYL.out; have := HH4.out.2.1; omega
        have ha5 := set_at3c (q' := q4) (l' := tt.ks.length) (c' := d4) HA4.out
        have hb5 := below_set (W := w4) HBN.out.1.1 (o + 2) (.slice q4 tt.ks.length d4)
        have hfs := fr_set (W := w4) (b := b) (o := o) (i := o + 2) (by omega) (.slice q4 tt.ks.length d4)
        have hp5 := sameP_set HA4.out (o + 2) (.slice q4 tt.ks.length d4)
        have hx5 : (w4.setCell ⟨b, o + 2, none⟩ (.slice q4 tt.ks.length d4)).heap[w.heap.size + 1]? = w4.heap[w.heap.size + 1]? := Below.heap_setCell _ _ _ _ (fun e => HBN.out.1.2 e.symm)
        have hn5 : Kp P w4 (w4.setCell ⟨b, o + 2, none⟩ (.slice q4 tt.ks.length d4)) := (Kp.refl _ _).set (HP.out b HBN.out.1.1) _ _
        have hk5 : Kp (Lo w.heap.size k.s) wr (w4.setCell ⟨b, o + 2, none⟩ (.slice q4 tt.ks.length d4)) := (HK3.out.trans (Kp.of_below HB4.out)).set (lo_new HBN.out.1.1) _ _
        generalize (w4.setCell ⟨b, o + 2, none⟩ (.slice q4 tt.ks.length d4)) = w5 at *
        have hbk5 : ∃ e', TBk P w5 k none n e' g ∧ Rep e' nm st := by
          obtain ⟨e', k1, k2⟩ := HB3.out
          exact ⟨e', (k1.below HB4.out).low hb5 HP.out HV.out.low.1 (fun x hx => by cases hx), k2⟩
        have hv5 : SnV P k n g nm st σ (inst σ t) w (rest ++ kidsR gg tt.ks) w5 := HV.out.made HP.out ((HF3.out.trans (fr_same HS4.out b o)).trans hfs) hk5 hbk5 ((hx5.trans ((HB4.out.block _ (lt_of_block (HX3.out _ HV.out.box))).trans (HX3.out _ HV.out.box))).trans HV.out.box.symm) HS3.out ha5 HTY3.out.ok HH4.out.1 (fun h0 => (HQG.out h0).1) (Nat.le_trans HH4.out.2.2 HH4.out.2.1) fun j hj => by
          obtain ⟨h', q', l', c', k1, k2⟩ := (HQG.out (by omega)).2 j hj
          exact ⟨h', q', l', c', k1.keep hfs HBN.out.2 (by omega) (.inl hgb), hn5.ty k2⟩
        have HA5 := Lib.hid ha5; have HV5 := Lib.hid hv5
        have HO5 := Lib.hid (show w5.ownsRow (w.heap.size + 2) 95 1 (.slice (some ⟨gb, 0, none⟩) m ca) (m + 0) (ptrs (rest ++ (kidsR gg tt.ks).take 0)) from by rw [List.take_zero, List.append_nil]; exact own_sameP (own_all HO3.out HB4.out) hp5)
        have HQ5 := Lib.hid (fun h0 : 0 < tt.ks.length => (HQG.out h0).1)
        have HG5 := Lib.hid (show sumW σ (rest ++ kidsR gg tt.ks) + 1 ≤ gk ∧ gk ≤ 1000000000 from by have := sumW_made HS3.out rest b o gg; have := HG.out; omega)
        clear hgb ha5 hb5 hfs hp5 hx5 hn5 hk5 hbk5 hv5 HV HF3 HX3 HK3 HB3 HO3 HA3 HTY3 HS3 HA4 HS4 HB4 HQG HH4 HYL HOW HG
        obtain ⟨⟨y0, y1, y2⟩, ⟨f0, f1, f2⟩, yl⟩ := HA5.out.cell
        go_wp2_with (fail)
        clear y0 y1 y2 f0 f1 f2 yl
        go_loopw [5, 49] (fun row i wr => ∃ (j : Nat) (v : Value), j ≤ tt.ks.length ∧ i = .int .i64 j ∧ row = v ∧ Hid (wr.ownsRow (w.heap.size + 2) 95 1 v (m + j) (ptrs (rest ++ (kidsR gg tt.ks).take j))) ∧ Hid (SnV P k n g nm st σ (inst σ t) w (rest ++ kidsR gg tt.ks) wr) ∧ Hid (At3 wr b o tt.h q4 tt.ks.length d4)) (fun _ i _ => tt.ks.length - (intOf i).toNat)
        case atStart => exact ⟨0, _, Nat.zero_le _, rfl, rfl, HO5, HV5, HA5⟩
        case round =>
          obtain ⟨j, v, hj, rfl, hv, HO, HV, HA⟩ := hrel
          subst u5
          clear HO5 HV5 HA5
          by_cases hlt2 : j < tt.ks.length
          · obtain rfl := HQ5.out (by omega)
            obtain ⟨⟨y0, y1, y2⟩, ⟨f0, f1, f2⟩, yl⟩ := HA.out.cell
            have hltI : (j : Int) < (tt.ks.length : Int) := by omega
            have hji : (j : Int) < 8000000000 := by have := HL2.out; omega
            have hb8 : ∀ O, Below wr.heap.size wr (wr.alloc O) := fun O => al_new O
            have hz8 : ∀ O, (wr.alloc O).heap.size = wr.heap.size + 1 := fun O => by simp
            have HB8 := Lib.hid hb8; have HZ8 := Lib.hid hz8; have HSW := Lib.hid HV.out.low.2
            clear hb8 hz8
            obtain ⟨av, cv, hva, hcv, hnv⟩ := own_slice HO.out
            subst hva
            go_wp2_with (at_builtin; go_loud (refine wpList_append_own_at _ rfl (.tmp 52) (.tmp 59) 96 rfl (w.heap.size + 2) 95 i0 _ 1 8 Tryd.underlying96 HI.out HZ0.out HZ1.out HZ2.out rfl (by decide) (.slice av (m + j) cv) (m + j) (ptrs (rest ++ (kidsR gg tt.ks).take j)) rfl (own_all HO.out (HB8.out _)) ⟨wr.heap.size, 0, none⟩ 1 1 [.pointer (some ⟨gg, j * 3, none⟩)] rfl rfl (new_ptr rfl) (one_ptr _ _) (by have := HL2.out; unfold maxLen; omega) (by have := HL2.out; omega) (by rw [HZ8.out]; have := HSW.out; omega) ?_); intro v' w9 hown9 hgr9 _ hat9; have HO9 := Lib.hid hown9; have HG9 := Lib.hid hgr9; clear hown9 hgr9 hat9)
            have hs9 := sameT_grown (own_all HO.out (HB8.out _)) (by decide) HG9.out
            have hb9 := below_grown (own_all HO.out (HB8.out _)) (Nat.le_add_right _ 2) HG9.out (by rw [HZ8.out]; have := HSW.out; omega)
            have hsa : SameT wr w9 := fun b' cur hc => (hs9 b' cur ((sameT_alloc _ b' cur hc).trans hc)).trans (sameT_alloc _ b' cur hc)
            have hba : Below w.heap.size wr w9 := ((HB8.out _).mono (by have := HSW.out; omega)).trans hb9
            have HV9 := Lib.hid (HV.out.more HP.out hsa hba); have HA9 := Lib.hid (hsa.at3 HA.out)
            clear hs9 hb9 hsa hba
            go_roundw
            case rel => exact ⟨j + 1, v', by omega, by go_num, rfl, Lib.hid (by rw [kidsR_take gg tt.ks j hlt2, ← List.append_assoc, ptrs_snoc]; exact HO9.out), HV9, HA9⟩
            case measure => simp [intOf]; omega
          · obtain rfl : j = tt.ks.length := by omega
            have hown := HO.out
            rw [List.take_of_length_le (by rw [kidsR_len]; exact Nat.le_refl _)] at hown
            have hrl : (rest ++ kidsR gg tt.ks).length = m + tt.ks.length := by rw [List.length_append, kidsR_len, ← HM.out]
            have HO1 := Lib.hid (show wr.ownsRow (w.heap.size + 2) 95 1 v (rest ++ kidsR gg tt.ks).length (ptrs (rest ++ kidsR gg tt.ks)) from by rw [hrl]; exact hown)
            have HGG := Lib.hid (show sumW σ (rest ++ kidsR gg tt.ks) ≤ gk - 1 ∧ gk - 1 ≤ 1000000000 by have := HG5.out; omega)
            have hgk : gk - 1 < gk := by have := HG5.out; omega
            clear hown hrl
            go_wp2_with (fail)
            go_roundg (gk - 1)
            case measure => exact hgk
            case rel => exact ⟨rest ++ kidsR gg tt.ks, _, rfl, HO1, HV, HGG⟩
      · have hkb : (u.h.k == 5) = false := beq_eq_false_iff_ne.2 hk
        have HS3 := Lib.hid (snT_self (σ := σ) HMAY.out.1 HMAY.out.2 hk); have HA3 := HAT; have HTY3 := HTY; have HO3 := HOW
        have HF3 := Lib.hid (Fr.of (fun _ _ _ => rfl) b o : Fr wr wr b o); have HK3 := Lib.hid (Kp.refl (Lo w.heap.size k.s) wr); have HB3 := Lib.hid HV.out.book
        go_upto_region 7 with (fail)
        clear y0 y1 y2 f0 f1 f2 yl hk hkb HAT HTY
        have HX3 := Lib.hid (fun (c : Obj) (hc : wr.heap[w.heap.size + 1]? = some c) => hc)
        have hl2 : u.ks.length ≤ 2 := by rcases (may_node HS3.out.may).1 with ⟨_, e⟩ | ⟨_, e⟩ | ⟨_, e⟩ <;> omega
        have hcl := cloneT_walk P u.ks q c4 wr HTY3.out.kids hl2
        obtain ⟨⟨y0, y1, y2⟩, ⟨f0, f1, f2⟩, yl⟩ := HA3.out.cell
        have HCL := Lib.hid hcl; have HL2 := Lib.hid hl2
        clear hcl hl2
        go_wp2_with (fail)
        refine HCL.out.mono ?_
        rintro en w4 ⟨q4, d4, rfl, hl4, hc4, hb4, hkids⟩
        have hs4 : SameT wr w4 := fun b' cur hc => hb4.block b' (lt_of_block hc)
        have ha4 := hs4.at3 HA3.out
        have HYL := Lib.hid yl
        clear y0 y1 y2 f0 f1 f2 yl
        obtain ⟨⟨y0, y1, y2⟩, ⟨f0, f1, f2⟩, yl⟩ := ha4.cell
        have hz4 : wr.heap.size ≤ wr.heap.size := HK3.out.size
        obtain ⟨gg, hgg, hqg⟩ : ∃ gg, wr.heap.size ≤ gg ∧ (0 < u.ks.length → q4 = some ⟨gg, 0, none⟩ ∧ ∀ j, j < u.ks.length → ∃ h q' l' c', At3 w4 gg (j * 3) h q' l' c' ∧ TyIs (veil P w4) h q' l' c' (tget u.ks j)) := by
          rcases Nat.eq_zero_or_pos u.ks.length with h0 | h0
          · exact ⟨wr.heap.size, Nat.le_refl _, fun h => by omega⟩
          · obtain ⟨gg, k1, k2, k3⟩ := hkids h0
            exact ⟨gg, k2, fun _ => ⟨k1, k3⟩⟩
        have HH4 := Lib.hid (And.intro (And.intro hl4 hc4) (And.intro hgg hz4)); have HQG := Lib.hid hqg; have HB4 := Lib.hid hb4; have HS4 := Lib.hid hs4; have HA4 := Lib.hid ha4
        clear hl4 hc4 hgg hz4 hqg hb4 hs4 ha4 hkids HCL
        go_upto_region 8 with (fail)
        clear y0 y1 y2 f0 f1 f2 yl
        have hgb : gg ≠ b := by have := HYL.out; have := HH4.out.2.1; omega
        have ha5 := set_at3c (q' := q4) (l' := u.ks.length) (c' := d4) HA4.out
        have hb5 := below_set (W := w4) HBN.out.1.1 (o + 2) (.slice q4 u.ks.length d4)
        have hfs := fr_set (W := w4) (b := b) (o := o) (i := o + 2) (by omega) (.slice q4 u.ks.length d4)
        have hp5 := sameP_set HA4.out (o + 2) (.slice q4 u.ks.length d4)
        have hx5 : (w4.setCell ⟨b, o + 2, none⟩ (.slice q4 u.ks.length d4)).heap[w.heap.size + 1]? = w4.heap[w.heap.size + 1]? := Below.heap_setCell _ _ _ _ (fun e => HBN.out.1.2 e.symm)
        have hn5 : Kp P w4 (w4.setCell ⟨b, o + 2, none⟩ (.slice q4 u.ks.length d4)) := (Kp.refl _ _).set (HP.out b HBN.out.1.1) _ _
        have hk5 : Kp (Lo w.heap.size k.s) wr (w4.setCell ⟨b, o + 2, none⟩ (.slice q4 u.ks.length d4)) := (HK3.out.trans (Kp.of_below HB4.out)).set (lo_new HBN.out.1.1) _ _
        generalize (w4.setCell ⟨b, o + 2, none⟩ (.slice q4 u.ks.length d4)) = w5 at *
        have hbk5 : ∃ e', TBk P w5 k none n e' g ∧ Rep e' nm st := by
          obtain ⟨e', k1, k2⟩ := HB3.out
          exact ⟨e', (k1.below HB4.out).low hb5 HP.out HV.out.low.1 (fun x hx => by cases hx), k2⟩
        have hv5 : SnV P k n g nm st σ (inst σ t) w (rest ++ kidsR gg u.ks) w5 := HV.out.made HP.out ((HF3.out.trans (fr_same HS4.out b o)).trans hfs) hk5 hbk5 ((hx5.trans ((HB4.out.block _ (lt_of_block (HX3.out _ HV.out.box))).trans (HX3.out _ HV.out.box))).trans HV.out.box.symm) HS3.out ha5 HTY3.out.ok HH4.out.1 (fun h0 => (HQG.out h0).1) (Nat.le_trans HH4.out.2.2 HH4.out.2.1) fun j hj => by
          obtain ⟨h', q', l', c', k1, k2⟩ := (HQG.out (by omega)).2 j hj
          exact ⟨h', q', l', c', k1.keep hfs HBN.out.2 (by omega) (.inl hgb), hn5.ty k2⟩
        have HA5 := Lib.hid ha5; have HV5 := Lib.hid hv5
        have HO5 := Lib.hid (show w5.ownsRow (w.heap.size + 2) 95 1 (.slice (some ⟨gb, 0, none⟩) m ca) (m + 0) (ptrs (rest ++ (kidsR gg u.ks).take 0)) from by rw [List.take_zero, List.append_nil]; exact own_sameP (own_all HO3.out HB4.out) hp5)
        have HQ5 := Lib.hid (fun h0 : 0 < u.ks.length => (HQG.out h0).1)
        have HG5 := Lib.hid (show sumW σ (rest ++ kidsR gg u.ks) + 1 ≤ gk ∧ gk ≤ 1000000000 from by have := sumW_made HS3.out rest b o gg; have := HG.out; omega)
        clear hgb ha5 hb5 hfs hp5 hx5 hn5 hk5 hbk5 hv5 HV HF3 HX3 HK3 HB3 HO3 HA3 HTY3 HS3 HA4 HS4 HB4 HQG HH4 HYL HOW HG
        obtain ⟨⟨y0, y1, y2⟩, ⟨f0, f1, f2⟩, yl⟩ := HA5.out.cell
        go_wp2_with (fail)
        clear y0 y1 y2 f0 f1 f2 yl
        go_loopw [5, 49] (fun row i wr => ∃ (j : Nat) (v : Value), j ≤ u.ks.length ∧ i = .int .i64 j ∧ row = v ∧ Hid (wr.ownsRow (w.heap.size + 2) 95 1 v (m + j) (ptrs (rest ++ (kidsR gg u.ks).take j))) ∧ Hid (SnV P k n g nm st σ (inst σ t) w (rest ++ kidsR gg u.ks) wr) ∧ Hid (At3 wr b o u.h q4 u.ks.length d4)) (fun _ i _ => u.ks.length - (intOf i).toNat)
        case atStart => exact ⟨0, _, Nat.zero_le _, rfl, rfl, HO5, HV5, HA5⟩
        case round =>
          obtain ⟨j, v, hj, rfl, hv, HO, HV, HA⟩ := hrel
          subst u5
          clear HO5 HV5 HA5
          by_cases hlt2 : j < u.ks.length
          · obtain rfl := HQ5.out (by omega)
            obtain ⟨⟨y0, y1, y2⟩, ⟨f0, f1, f2⟩, yl⟩ := HA.out.cell
            have hltI : (j : Int) < (u.ks.length : Int) := by omega
            have hji : (j : Int) < 8000000000 := by have := HL2.out; omega
            have hb8 : ∀ O, Below wr.heap.size wr (wr.alloc O) := fun O => al_new O
            have hz8 : ∀ O, (wr.alloc O).heap.size = wr.heap.size + 1 := fun O => by simp
            have HB8 := Lib.hid hb8; have HZ8 := Lib.hid hz8; have HSW := Lib.hid HV.out.low.2
            clear hb8 hz8
            obtain ⟨av, cv, hva, hcv, hnv⟩ := own_slice HO.out
            subst hva
            go_wp2_with (at_builtin; go_loud (refine wpList_append_own_at _ rfl (.tmp 52) (.tmp 59) 96 rfl (w.heap.size + 2) 95 i0 _ 1 8 Tryd.underlying96 HI.out HZ0.out HZ1.out HZ2.out rfl (by decide) (.slice av (m + j) cv) (m + j) (ptrs (rest ++ (kidsR gg u.ks).take j)) rfl (own_all HO.out (HB8.out _)) ⟨wr.heap.size, 0, none⟩ 1 1 [.pointer (some ⟨gg, j * 3, none⟩)] rfl rfl (new_ptr rfl) (one_ptr _ _) (by have := HL2.out; unfold maxLen; omega) (by have := HL2.out; omega) (by rw [HZ8.out]; have := HSW.out; omega) ?_); intro v' w9 hown9 hgr9 _ hat9; have HO9 := Lib.hid hown9; have HG9 := Lib.hid hgr9; clear hown9 hgr9 hat9)
            have hs9 := sameT_grown (own_all HO.out (HB8.out _)) (by decide) HG9.out
            have hb9 := below_grown (own_all HO.out (HB8.out _)) (Nat.le_add_right _ 2) HG9.out (by rw [HZ8.out]; have := HSW.out; omega)
            have hsa : SameT wr w9 := fun b' cur hc => (hs9 b' cur ((sameT_alloc _ b' cur hc).trans hc)).trans (sameT_alloc _ b' cur hc)
            have hba : Below w.heap.size wr w9 := ((HB8.out _).mono (by have := HSW.out; omega)).trans hb9
            have HV9 := Lib.hid (HV.out.more HP.out hsa hba); have HA9 := Lib.hid (hsa.at3 HA.out)
            clear hs9 hb9 hsa hba
            go_roundw
            case rel => exact ⟨j + 1, v', by omega, by go_num, rfl, Lib.hid (by rw [kidsR_take gg u.ks j hlt2, ← List.append_assoc, ptrs_snoc]; exact HO9.out), HV9, HA9⟩
            case measure => simp [intOf]; omega
          · obtain rfl : j = u.ks.length := by omega
            have hown := HO.out
            rw [List.take_of_length_le (by rw [kidsR_len]; exact Nat.le_refl _)] at hown
            have hrl : (rest ++ kidsR gg u.ks).length = m + u.ks.length := by rw [List.length_append, kidsR_len, ← HM.out]
            have HO1 := Lib.hid (show wr.ownsRow (w.heap.size + 2) 95 1 v (rest ++ kidsR gg u.ks).length (ptrs (rest ++ kidsR gg u.ks)) from by rw [hrl]; exact hown)
            have HGG := Lib.hid (show sumW σ (rest ++ kidsR gg u.ks) ≤ gk - 1 ∧ gk - 1 ≤ 1000000000 by have := HG5.out; omega)
            have hgk : gk - 1 < gk := by have := HG5.out; omega
            clear hown hrl
            go_wp2_with (fail)
            go_roundg (gk - 1)
            case measure => exact hgk
            case rel => exact ⟨rest ++ kidsR gg u.ks, _, rfl, HO1, HV, HGG⟩
end Types
end Go.Proofs.YtjchplgapaeagaaDoor
