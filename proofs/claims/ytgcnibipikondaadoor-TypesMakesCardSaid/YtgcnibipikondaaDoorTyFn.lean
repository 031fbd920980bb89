/- The walk of the program's Fn: it goes backward through a row of types of its own. -/
import Derived.Test.YtgcnibipikondaaDoorTyBack
import Derived.Test.YtgcnibipikondaaDoorTyOf2
namespace Go.Proofs.YtgcnibipikondaaDoor
open Go.RowKit Go.Shelf
set_option linter.unusedVariables false
attribute [local go_sem] Oper.semAt_some
namespace Types

/-- A function of all but the last, to the last. -/
def fnR : List Ty → Ty
  | [] => .node ⟨1, 0⟩ []
  | x :: r => r.foldl (fun t a => .node ⟨4, 0⟩ [a, t]) x
def fnT (ts : List Ty) : Ty := fnR ts.reverse
def FnEnd (ts : List Ty) (w : World) (e : Ending) (w' : World) : Prop :=
  ∃ h q l c, e = .returned (.agg #[.int .u8 h.k, .int .i64 h.v, .slice q l c]) ∧ TyIs (veil (from_ w.heap.size) w') h q l c (fnT ts) ∧ Below w.heap.size w w'
def foldF {W0 : World} (t : Ty) (pre : List (It W0)) : Ty := pre.foldl (fun t x => .node ⟨4, 0⟩ [x.t, t]) t
theorem foldF_snoc {W0 : World} (t : Ty) (pre : List (It W0)) (x : It W0) : foldF t (pre ++ [x]) = .node ⟨4, 0⟩ [x.t, foldF t pre] := by simp [foldF]
/-- Behind block B, but N. -/
def vis (B N : Nat) (i : Nat) : Bool := decide (B < i ∧ i ≠ N)
/-- The rounds' state. -/
def FnI {W0 : World} (w : World) (N : Nat) (t0 : Ty) (pre : List (It W0)) (W : World) : Prop :=
  (∃ h q l c, W.heap[N]? = some (.cells #[.int .u8 h.k, .int .i64 h.v, .slice q l c] 24 (0, 0)) ∧ TyIs (veil (vis w.heap.size N) W) h q l c (foldF t0 pre)) ∧
  W.heap[w.heap.size]? = some (.cells #[.int .u8 0, .int .i64 0, .slice none 0 0] 24 (0, 0)) ∧ Reads W0 (veil (vis w.heap.size N) W) ∧ Below w.heap.size w W ∧ N + 2 ≤ W.heap.size
/-- The row's types, as they come. -/
theorem row_it {W0 : World} {b o : Nat} {ts : List Ty} (h : Kids W0 (some ⟨b, o, none⟩) ts) (len : Nat) (hl : len ≤ ts.length) : ∃ f : Nat → It W0, RowIt W0 b o len f ∧ ∀ k, k < len → (f k).t = tget ts k := by
  have each : ∀ k, ∃ x : It W0, k < len → x.i = k ∧ x.t = tget ts k ∧ W0.cell? ⟨b, o + k * 3, none⟩ = some (.int .u8 x.h.k) ∧ W0.cell? ⟨b, o + k * 3 + 1, none⟩ = some (.int .i64 x.h.v) ∧ W0.cell? ⟨b, o + k * 3 + 2, none⟩ = some (.slice x.q x.l x.c) := by
    intro k
    by_cases hk : k < len
    · obtain ⟨b', o', q, c, he, hT, c0, c1, c2⟩ := h.get k (by omega)
      injection he with he
      injection he with e1 e2
      subst e1 e2
      exact ⟨⟨k, _, q, _, c, _, hT⟩, fun _ => ⟨rfl, rfl, c0, c1, c2⟩⟩
    · exact ⟨⟨0, ⟨0, 0⟩, none, 0, 0, .node ⟨0, 0⟩ [], ⟨rfl, rfl, ⟨by show (0 : Int) ≤ 0 ∧ (0 : Int) ≤ 255; omega, by show (-9223372036854775808 : Int) ≤ 0 ∧ (0 : Int) ≤ 9223372036854775807; omega⟩, ⟨Nat.le_refl _, Nat.zero_le _⟩, .nokids _⟩⟩, fun h => absurd h hk⟩
  obtain ⟨f, hf⟩ := Classical.axiomOfChoice each
  exact ⟨f, ⟨fun k hk => (hf k hk).1, fun k hk => (hf k hk).2.2.1, fun k hk => (hf k hk).2.2.2.1, fun k hk => (hf k hk).2.2.2.2⟩, fun k hk => (hf k hk).2.1⟩
theorem back_map {α β : Type} (f : Nat → α) (g : α → β) (us : List β) (h : ∀ k, k < us.length → us[k]? = some (g (f k))) : (back f us.length us.length).map g = us.reverse := by
  apply List.ext_getElem?
  intro i
  by_cases hi : i < us.length
  · simp only [back, List.map_map, List.getElem?_map, List.getElem?_range hi, Option.map_some, Function.comp]
    rw [List.getElem?_reverse hi, h (us.length - 1 - i) (by omega)]
  · rw [List.getElem?_eq_none (by simp [back]; omega), List.getElem?_eq_none (by simp; omega)]
theorem fold_all {W0 : World} (f : Nat → It W0) (ts : List Ty) (n : Nat) (hn : ts.length = n + 1) (hf : ∀ k, k < n → (f k).t = tget ts k) : foldF (tget ts n) (back f n n) = fnT ts := by
  have hlen : (ts.take n).length = n := by rw [List.length_take]; omega
  have h1 : (back f n n).map (·.t) = (ts.take n).reverse := by
    have := back_map f (·.t) (ts.take n) (fun k hk => by rw [hlen] at hk; rw [List.getElem?_take, if_pos hk, tget_at (by omega), hf k hk])
    rwa [hlen] at this
  have h2 : ts.reverse = tget ts n :: (ts.take n).reverse := by
    have : ts = ts.take n ++ [tget ts n] := by rw [← take_tget ts n (by omega), List.take_of_length_le (by omega)]
    conv => lhs; rw [this]
    simp
  unfold fnT
  rw [h2, ← h1]
  show _ = List.foldl _ _ _
  rw [List.foldl_map]
  rfl

theorem cells_lt {W : World} {b : Nat} {O : Obj} (h : W.heap[b]? = some O) : b < W.heap.size := lt_of_block h
theorem own_reads {X Y : World} {row : Option Nat} {P : Nat → Bool} (hg : X.grownBy Y row) (hr : ∀ r, row = some r → ∃ o : Obj, X.heap[r]? = some o ∧ o.isCells = false) : Reads (veil P X) (veil P Y) := fun a v hv => by
  obtain ⟨hp, hx⟩ := veil_seen hv
  rw [World.cell?_of_block (veil_at hp)]
  exact cell_kept hx hg hr
theorem own_cells {X Y : World} {row : Option Nat} {b : Nat} {cs : Array Value} {ty : TypeId} {fz : Nat × Nat} (h : X.heap[b]? = some (.cells cs ty fz)) (hg : X.grownBy Y row) (hr : ∀ r, row = some r → ∃ o : Obj, X.heap[r]? = some o ∧ o.isCells = false) : Y.heap[b]? = some (.cells cs ty fz) := by
  refine (hg.block b (lt_of_block h) (fun e => ?_)).trans h
  obtain ⟨o, ho, hc⟩ := hr b e.symm
  rw [h] at ho; cases ho; cases hc
theorem fnI_own {W0 : World} (w : World) (N B0 : Nat) (t0 : Ty) (hB : w.heap.size ≤ B0) : OwnFrom B0 (FnI (W0 := W0) w N t0) := by
  rintro pre X Y row ⟨⟨h, q, l, c, hN, hT⟩, hX, hR, hb, hz⟩ hg hr
  have hr' := fun r e => (hr r e).2
  refine ⟨⟨h, q, l, c, own_cells hN hg hr', hT.reads' (own_reads hg hr')⟩, own_cells hX hg hr', hR.trans (own_reads hg hr'), hb.grown hg hb.size (fun k e => Nat.le_trans hB (hr k e).1), Nat.le_trans hz hg.size⟩
/-- What a round does. -/
theorem fn_step {W0 w W : World} {N : Nat} {t0 : Ty} {pre : List (It W0)} {x : It W0} (hN : w.heap.size < N) (hM : N + 2 ≤ W.heap.size) {h : Hd} {q : Option Addr} {l c : Nat}
    (h1 : W.heap[N]? = some (.cells #[.int .u8 h.k, .int .i64 h.v, .slice q l c] 24 (0, 0))) (hT : TyIs (veil (vis w.heap.size N) W) h q l c (foldF t0 pre)) (hX : W.heap[w.heap.size]? = some (.cells #[.int .u8 0, .int .i64 0, .slice none 0 0] 24 (0, 0))) (hR : Reads W0 (veil (vis w.heap.size N) W)) (hb : Below w.heap.size w W) :
    let W' := (((W.setCell ⟨N, 0, none⟩ (.int .u8 4)).setCell ⟨N, 1, none⟩ (.int .i64 0)).setCell ⟨N, 2, none⟩ (.slice (some ⟨W.heap.size, 0, none⟩) 2 2)).alloc (.cells #[.int .u8 x.h.k, .int .i64 x.h.v, .slice x.q x.l x.c, .int .u8 h.k, .int .i64 h.v, .slice q l c] 24)
    KeepsOthers W W' ∧ KpN N (N + 2) W W' ∧ FnI w N t0 (pre ++ [x]) W' := by
  intro W'
  have hNl := lt_of_block h1
  have hsz : (((W.setCell ⟨N, 0, none⟩ (.int .u8 4)).setCell ⟨N, 1, none⟩ (.int .i64 0)).setCell ⟨N, 2, none⟩ (.slice (some ⟨W.heap.size, 0, none⟩) 2 2)).heap.size = W.heap.size := by simp [World.setCell]
  have hoth : ∀ b, b < W.heap.size → b ≠ N → W'.heap[b]? = W.heap[b]? := fun b hbl hn => (Below.heap_alloc _ _ b (by rw [hsz]; exact hbl)).trans (set3_other _ _ _ _ _ hn)
  have hnew : W'.heap[W.heap.size]? = some (.cells #[.int .u8 x.h.k, .int .i64 x.h.v, .slice x.q x.l x.c, .int .u8 h.k, .int .i64 h.v, .slice q l c] 24 (0, 0)) := by
    have := heap_alloc_new (((W.setCell ⟨N, 0, none⟩ (.int .u8 4)).setCell ⟨N, 1, none⟩ (.int .i64 0)).setCell ⟨N, 2, none⟩ (.slice (some ⟨W.heap.size, 0, none⟩) 2 2)) (.cells #[.int .u8 x.h.k, .int .i64 x.h.v, .slice x.q x.l x.c, .int .u8 h.k, .int .i64 h.v, .slice q l c] 24)
    rwa [hsz] at this
  have hNN : W'.heap[N]? = some (.cells #[.int .u8 4, .int .i64 0, .slice (some ⟨W.heap.size, 0, none⟩) 2 2] 24 (0, 0)) := by
    refine (Below.heap_alloc _ _ N (by rw [hsz]; exact hNl)).trans ?_
    simp [World.setCell, Array.getElem?_modify, h1]
  have hup : Reads ((veil (vis w.heap.size N) W).alloc (.cells #[.int .u8 x.h.k, .int .i64 x.h.v, .slice x.q x.l x.c, .int .u8 h.k, .int .i64 h.v, .slice q l c] 24)) (veil (vis w.heap.size N) W') := fun a v hv => by
    have hlt := World.block_lt_of_cell? _ _ hv
    have hlt' : a.block < W.heap.size + 1 := by rw [World.size_alloc, veil_size] at hlt; exact hlt
    have hsw := hb.size
    by_cases he : a.block = W.heap.size
    · have hvis : vis w.heap.size N a.block = true := decide_eq_true (by omega)
      rw [World.cell?_of_block (veil_at hvis), ← hv]
      apply World.cell?_of_block
      have e1 := heap_alloc_new (veil (vis w.heap.size N) W) (.cells #[.int .u8 x.h.k, .int .i64 x.h.v, .slice x.q x.l x.c, .int .u8 h.k, .int .i64 h.v, .slice q l c] 24)
      rw [veil_size] at e1
      rw [he, hnew, e1]
    · have h2 : (veil (vis w.heap.size N) W).cell? a = some v := by
        rw [← hv]
        exact (World.cell?_of_block (Below.heap_alloc _ _ a.block (by rw [veil_size]; omega))).symm
      obtain ⟨hp, h3⟩ := veil_seen h2
      have hp' := of_decide_eq_true hp
      rw [World.cell?_of_block (veil_at hp), World.cell?_of_block (hoth a.block (by omega) hp'.2)]
      exact h3
  have hR' : Reads W0 (veil (vis w.heap.size N) W') := fun a v hv => hup a v (by
    rw [World.cell?_of_block (Below.heap_alloc _ _ a.block (World.block_lt_of_cell? _ _ (hR a v hv)))]
    exact hR a v hv)
  refine ⟨((((KeepsOthers.setCell _ _ _).trans (KeepsOthers.setCell _ _ _)).trans (KeepsOthers.setCell _ _ _)).trans (KeepsOthers.alloc _ _)), ⟨by show _ ≤ W'.heap.size; simp [W', hsz], fun b hbm hn => hoth b (by omega) hn⟩, ⟨⟨4, 0⟩, some ⟨W.heap.size, 0, none⟩, 2, 2, hNN, ?_⟩, (hoth _ (lt_of_block hX) (by omega)).trans hX, hR', ?_, by show _ ≤ W'.heap.size; simp [W', hsz]; omega⟩
  · rw [foldF_snoc]
    refine ⟨rfl, rfl, ⟨by show (0 : Int) ≤ 4 ∧ (4 : Int) ≤ 255; omega, by show (-9223372036854775808 : Int) ≤ 0 ∧ (0 : Int) ≤ 9223372036854775807; omega⟩, ⟨Nat.le_refl _, by unfold maxLen; omega⟩, ?_⟩
    exact (kids_two (x.is.reads' hR) hT 24 W.heap.size (veil_size _ _).symm).reads' hup
  · exact (hb.trans (set3_below _ _ _ (by omega))).alloc (by rw [hsz]; exact hb.size) _

theorem cell_of {W : World} {b : Nat} {v : Value} {ty : TypeId} (h : W.heap[b]? = some (.cells #[v] ty (0, 0))) : W.cell? ⟨b, 0, none⟩ = some v := by simp [World.cell?, h]
theorem kpN_put {N M : Nat} {Wl : World} (hM : M ≤ Wl.heap.size) (W : World) (l : Nat) (o o' : Obj) (hl : Wl.heap.size ≤ l) (h : W.heap[l]? = some o) (_ : o.isCells = false) (_ : o.isWalk = false) : KpN N M W (W.putObj l o') :=
  ⟨(grownBy_putObj' W l o').size, fun b hb _ => (grownBy_putObj' W l o').block b (by have := (Array.getElem?_eq_some_iff.1 h).1; omega) (fun e => by injection e with e; omega)⟩
set_option maxRecDepth 100000 in
set_option maxHeartbeats 6400000 in
theorem fn_walk (ts : List Ty) (p : Option Addr) (l d : Nat) (w : World) (hw : wts ts ≤ 50000) (hl : ts.length = l) (hlm : l ≤ 50000) (hk : Kids w p ts) :
    Calls Tryd.prog 22 #[.slice p l d] w (FnEnd ts w) := by
  by_cases h0 : l = 0
  · subst h0
    obtain rfl : ts = [] := List.length_eq_zero_iff.1 hl
    have hin := fun O : Obj => int_walk (w.alloc O)
    have HIN := Lib.hid hin
    clear hin hk hl hw hlm
    go_enter Tryd.func22, Tryd.ntmps22
    go_wp2_with (fail)
    refine (HIN.out _).mono ?_
    rintro e w2 ⟨q2, c2, rfl, hT, hb2⟩
    have hX := (hb2.block w.heap.size (by simp)).trans (heap_alloc_new w _)
    obtain ⟨⟨x0, x1, x2⟩, y0, y1, y2⟩ := cells3 hX
    have HB2 := Lib.hid ((box_new (w := w) (.cells #[.int .u8 0, .int .i64 0, .slice none 0 0] 24)).trans (hb2.mono (by simp)))
    have HT := Lib.hid hT
    clear hX hb2 hT
    go_wp2_with (fail)
    refine bodyPost_ret (v := .agg #[.int .u8 1, .int .i64 0, .slice q2 0 c2]) (by simp [results, Tryd.results22, go_sem, x0, x1, x2]) rfl ?_
    exact ⟨⟨1, 0⟩, q2, 0, c2, rfl, ty_up HT.out _ _ _ (by simp) (by simp), HB2.out.trans (set3_below _ _ _ (Nat.le_refl _))⟩
  obtain ⟨n, rfl⟩ : ∃ n, l = n + 1 := ⟨l - 1, by omega⟩
  have hcp := fun O : Obj => copied_walk (wts ts) ts p (n + 1) d (w.alloc O) (Nat.le_refl _) (by omega) hl (by omega) (hk.stay (box_new O))
  refine (callsIn_wide (n := 10)).1 ?_
  refine callsIn_of_wp_marks Tryd.func22 rfl trivial ?_ rfl
  simp only [Tryd.ntmps22, List.size_toArray, List.length_cons, List.length_nil, Nat.reduceAdd, Nat.reduceSub, Array.replicate_succ, Array.replicate_zero, List.push_toArray, List.append_toArray, List.nil_append, List.cons_append]
  have HCP := Lib.hid hcp; have HL := Lib.hid hl
  have hnlt : n < ts.length := by omega
  have hlm2 : n + 1 ≤ 50000 := hlm
  clear hcp h0 hw hl hk
  gi_wp2_with (first
    | (refine ⟨trivial, ?_⟩; gi_at_call 36; refine (callsIn_wide.2 (HCP.out _)).mono ?_; rintro e w1 ⟨q0, c0, rfl, hc1, hc2, hk1, hb1⟩; obtain ⟨b, o, q, c', rfl, hTn, e0, e1, e2⟩ := hk1.get n hnlt; have e0 := veil_reads _ _ _ _ e0; have e1 := veil_reads _ _ _ _ e1; have e2 := veil_reads _ _ _ _ e2; have hc2' : c0 ≤ 9223372036854775807 := hc2)
    | (refine ⟨trivial, ?_⟩; gi_at_call 37; refine (callsIn_wide.2 (backward_walk _ _ _ _)).mono ?_; rintro e w2 ⟨rfl, rfl⟩))
  have hX1 := (hb1.block w.heap.size (by simp)).trans (heap_alloc_new w (.cells #[.int .u8 0, .int .i64 0, .slice none 0 0] 24))
  have hB1 : Below w.heap.size w w1 := (box_new (w := w) (.cells #[.int .u8 0, .int .i64 0, .slice none 0 0] 24)).trans (hb1.mono (by simp))
  have hwl : w.heap.size < w1.heap.size := lt_of_block hX1
  rw [show (w.alloc (.cells #[.int .u8 0, .int .i64 0, .slice none 0 0] 24)).heap.size = w.heap.size + 1 from by simp] at hk1 hTn
  obtain ⟨W0, hW0⟩ : ∃ W0, veil (from_ (w.heap.size + 1)) w1 = W0 := ⟨_, rfl⟩
  have hW0s : W0.heap.size = w1.heap.size := by rw [← hW0]; exact veil_size _ _
  have hR0 : ∀ W, Below w1.heap.size w1 W → Reads W0 (veil (vis w.heap.size w1.heap.size) W) := fun W hb => by
    rw [← hW0]
    exact veil_to fun i hi hp => by
      have hp' : w.heap.size + 1 ≤ i := of_decide_eq_true hp
      exact ⟨decide_eq_true (by omega), hb.block i hi⟩
  rw [hW0] at hk1 hTn
  obtain ⟨f, hF, hft⟩ := row_it hk1 n (by omega)
  have hfin := fold_all f ts n HL.out hft
  generalize tget ts n = t at *
  obtain ⟨Wl, hWl⟩ : ∃ Wl, ((w1.alloc (.cells #[.int .u8 t.h.k, .int .i64 t.h.v, .slice q t.ks.length c'] 24)).alloc (.cells #[.slice (some ⟨b, o, none⟩) n c0] 22)) = Wl := ⟨_, rfl⟩
  have hWs : Wl.heap.size = w1.heap.size + 1 + 1 := by rw [← hWl]; simp
  have hWb : Below w1.heap.size w1 Wl := by rw [← hWl]; exact (box_new _).trans ((box_new _).mono (by simp))
  have hWN : Wl.heap[w1.heap.size]? = some (.cells #[.int .u8 t.h.k, .int .i64 t.h.v, .slice q t.ks.length c'] 24 (0, 0)) := by
    rw [← hWl, Below.heap_alloc _ _ _ (by simp)]; exact heap_alloc_new _ _
  have hWB : Wl.cell? ⟨w1.heap.size + 1, 0, none⟩ = some (.slice (some ⟨b, o, none⟩) n c0) := by
    rw [← hWl]
    have := heap_alloc_new (w1.alloc (.cells #[.int .u8 t.h.k, .int .i64 t.h.v, .slice q t.ks.length c'] 24)) (.cells #[.slice (some ⟨b, o, none⟩) n c0] 22)
    rw [show (w1.alloc (.cells #[.int .u8 t.h.k, .int .i64 t.h.v, .slice q t.ks.length c'] 24)).heap.size = w1.heap.size + 1 from by simp] at this
    exact cell_of this
  rw [hWl]
  have hI0 : FnI (W0 := W0) w w1.heap.size t [] Wl := ⟨⟨t.h, q, t.ks.length, c', hWN, hTn.reads' (hR0 Wl hWb)⟩, (hWb.block _ hwl).trans hX1, hR0 Wl hWb, hB1.trans (hWb.mono (by omega)), by omega⟩
  clear hWl e0 e1 e2 hX1 hB1
  refine wpIn_rangeFunc_ownH rfl (show 1 ≤ 10 by omega) (gf := 45) (lb := #[.pointer (some ⟨w1.heap.size + 1, 0, none⟩)]) rfl trivial (enters_of Tryd.func45 (by kernel_rfl) rfl)
    (back_stops Fence.wide 9 trivial rfl (by omega) (w1.heap.size + 1) w1.heap.size (w1.heap.size + 2) W0 hW0s (by omega) b o n c0 f (by omega) hF Wl hWB ⟨by omega, by omega⟩ (by omega) ((hR0 Wl hWb).trans (veil_reads _ _))) KpN.trans (kpN_put (N := w1.heap.size) (M := w1.heap.size + 2) (Wl := Wl) (by omega)) (Below.refl _ _) (fun _ => rfl)
    (FnI w w1.heap.size t) (fun _ _ _ => False) (fnI_own w w1.heap.size _ t (by omega)) (fun _ _ _ _ _ hs _ _ => hs) hI0
    (fun x a' W => ∃ Bx, w1.heap.size < Bx ∧ W.heap[Bx]? = some (.cells #[.int .u8 x.h.k, .int .i64 x.h.v, .slice x.q x.l x.c] 24 (0, 0)) ∧ a' = { tmps := #[.slice p (n + 1) d, undef, .pointer (some ⟨w.heap.size, 0, none⟩), .slice (some ⟨b, o, none⟩) (n + 1) c0, .int .i64 n, .pointer (some ⟨w1.heap.size, 0, none⟩), undef, .pointer (some ⟨Bx, 0, none⟩), .slice p (n + 1) d, .int .i64 (n + 1), .bool false, undef, .slice p (n + 1) d, .slice (some ⟨b, o, none⟩) (n + 1) c0, .slice (some ⟨b, o, none⟩) (n + 1) c0, .int .i64 (n + 1), .int .i64 n, .slice (some ⟨b, o, none⟩) (n + 1) c0, .int .i64 n, .pointer (some ⟨b, o + n * 3, none⟩), .agg #[.int .u8 t.h.k, .int .i64 t.h.v, .slice q t.ks.length c'], .slice (some ⟨b, o, none⟩) (n + 1) c0, .int .i64 n, .slice (some ⟨b, o, none⟩) n c0, .func (.func 45) #[] #[.pointer (some ⟨w1.heap.size + 1, 0, none⟩)], .int .i64 x.i, .agg #[.int .u8 x.h.k, .int .i64 x.h.v, .slice x.q x.l x.c], undef, undef, undef, undef, undef], defers := [] })
    (fun x a' _ X Y row hs hg hr => by obtain ⟨Bx, h1, h2, h3⟩ := hs; exact ⟨Bx, h1, own_cells h2 hg (fun r e => (hr r e).2), h3⟩)
    ?assign ?body ?done ?stop
  case assign =>
    rintro l pre x W K hI hK
    have hnx : w1.heap.size < W.heap.size := by obtain ⟨⟨_, _, _, _, hN, _⟩, _⟩ := hI; exact lt_of_block hN
    have hwz : w1.heap.size + 2 ≤ W.heap.size := hI.2.2.2.2
    have hI2 : FnI w w1.heap.size t pre (W.alloc (.cells #[.int .u8 x.h.k, .int .i64 x.h.v, .slice x.q x.l x.c] 24)) := (fnI_own w w1.heap.size _ t (Nat.le_refl _)) pre W _ none hI (World.grownBy_alloc W _ none) (fun r e => by cases e)
    have hkp : KpN w1.heap.size (w1.heap.size + 2) W (W.alloc (.cells #[.int .u8 x.h.k, .int .i64 x.h.v, .slice x.q x.l x.c] 24)) := ⟨by simp, fun b hb hn => Below.heap_alloc _ _ b (by omega)⟩
    unfold encIt
    gi_wp2
    exact hK _ _ ((KeepsOthers.alloc _ _).from _) hkp hI2 ⟨W.heap.size, hnx, heap_alloc_new W _, rfl⟩
  case body =>
    rintro l pre x a' W hl ⟨r, hr⟩ ⟨⟨hd, q1, l1, c1, hN, hT⟩, hX, hR, hB, hz⟩ ⟨Bx, hBx, hbX, rfl⟩ hlt
    have hNl := lt_of_block hN
    obtain ⟨h1, h2, h3⟩ := fn_step (x := x) hwl hz hN hT hX hR hB
    obtain ⟨⟨x0, x1, x2⟩, -⟩ := cells3 hbX
    obtain ⟨⟨y0, y1, y2⟩, z0, z1, z2⟩ := cells3 hN
    gi_wp2
    exact ⟨h1.from _, h2, h3⟩
  case done =>
    rintro D zs W hD rfl ⟨⟨hd, q1, l1, c1, hN, hT⟩, hX, hR, hB, hz⟩ hK
    obtain ⟨⟨y0, y1, y2⟩, -⟩ := cells3 hN
    obtain ⟨⟨x0, x1, x2⟩, z0, z1, z2⟩ := cells3 hX
    gi_wp2
    have hDB : D ≠ w.heap.size := by omega
    have hK3 : (((W.setCell ⟨w.heap.size, 0, none⟩ (.int .u8 hd.k)).setCell ⟨w.heap.size, 1, none⟩ (.int .i64 hd.v)).setCell ⟨w.heap.size, 2, none⟩ (.slice q1 l1 c1)).heap[D]? = some (.deferred (some [])) := (set3_other _ _ _ _ _ hDB).trans hK
    have hX3 : (((W.setCell ⟨w.heap.size, 0, none⟩ (.int .u8 hd.k)).setCell ⟨w.heap.size, 1, none⟩ (.int .i64 hd.v)).setCell ⟨w.heap.size, 2, none⟩ (.slice q1 l1 c1)).heap[w.heap.size]? = some (.cells #[.int .u8 hd.k, .int .i64 hd.v, .slice q1 l1 c1] 24 (0, 0)) := by
      simp [World.setCell, Array.getElem?_modify, hX]
    have hB3 := hB.trans (set3_below (W := W) (.int .u8 hd.k) (.int .i64 hd.v) (.slice q1 l1 c1) (Nat.le_refl w.heap.size))
    have hT3 : TyIs (veil (from_ w.heap.size) (((W.setCell ⟨w.heap.size, 0, none⟩ (.int .u8 hd.k)).setCell ⟨w.heap.size, 1, none⟩ (.int .i64 hd.v)).setCell ⟨w.heap.size, 2, none⟩ (.slice q1 l1 c1))) hd q1 l1 c1 (fnT ts) := by
      rw [← hfin]
      exact hT.reads' (veil_to fun i hi hp => by
        have hp' := of_decide_eq_true hp
        exact ⟨decide_eq_true (by omega), set3_other _ _ _ _ _ (by omega)⟩)
    generalize (((W.setCell ⟨w.heap.size, 0, none⟩ (.int .u8 hd.k)).setCell ⟨w.heap.size, 1, none⟩ (.int .i64 hd.v)).setCell ⟨w.heap.size, 2, none⟩ (.slice q1 l1 c1)) = W3 at *
    have hr3 : ∀ r, some D = some r → ∃ o : Obj, W3.heap[r]? = some o ∧ o.isCells = false := fun r e => by cases e; exact ⟨_, hK3, rfl⟩
    obtain ⟨⟨u0, u1, u2⟩, -⟩ := cells3 (own_cells hX3 (grownBy_putObj' W3 D (.deferred none)) hr3)
    refine ⟨by simp, .inl ⟨_, _, rfl, run_takeDeferred hK3, ?_⟩⟩
    refine ⟨.agg #[.int .u8 hd.k, .int .i64 hd.v, .slice q1 l1 c1], ?_, hd, q1, l1, c1, rfl, hT3.reads' (own_reads (grownBy_putObj' W3 D (.deferred none)) hr3), hB3.trans (belowK_b (w := w) (Nat.le_refl _) W3 D _ _ (by omega) hK3 rfl rfl)⟩
    simp [results, Tryd.f22, go_sem, u0, u1, u2]
  case stop =>
    rintro D c pre W _ _ h _
    exact h.elim
end Types
end Go.Proofs.YtgcnibipikondaaDoor
