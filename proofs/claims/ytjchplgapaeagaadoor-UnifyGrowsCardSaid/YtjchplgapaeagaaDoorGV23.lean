/-The program's same. (Written by wip/tools/unsame.py.) -/
import Derived.Test.YtjchplgapaeagaaDoorGV14
import Derived.Test.YtjchplgapaeagaaDoorGV11
import Derived.Test.YtjchplgapaeagaaDoorGV06
namespace Go.Proofs.YtjchplgapaeagaaDoor
open Go.RowKit
set_option linter.unusedVariables false
set_option linter.unusedSimpArgs false
namespace Types

theorem infoPair : (Tryd.prog.info? 82).map (fun i => (i.zero, i.size, i.bytes)) = some (some (.agg #[.int .u8 0, .int .i64 0, .slice none 0 0, .int .u8 0, .int .i64 0, .slice none 0 0]), 6, 80) := by kernel_rfl
/-- How it ends. -/
def SameEnd (P : Nat → Bool) (k : Bk) (u : Up) (n0 : Nat) (nm0 : Nat → Nat) (st0 : Nat → Option Ty) (r0 : Nat → Nat) (ts : List Ty) (g0 : Nat → Bool) (bud : Nat) (w : World) (en : Ending) (w' : World) : Prop :=
  ∃ (N : Nat) (e : Nat → Option Ty) (g : Nat → Bool), TBk P w' k u N e g ∧ Kp (fun b => decide (b ≠ k.b ∧ b ≠ k.s ∧ b ≠ k.i)) w w' ∧ (∀ v, g0 v = true → g v = true) ∧
    ((en = .returned (.tuple #[.slice none 0 0, .bool false]) ∧ ∀ θ, ¬ (SolA nm0 st0 θ ∧ AllOne ts θ)) ∨
     ∃ (a : Option Addr) (c : Nat) (js : List Int) (joined : List Nat) (nm : Nat → Nat) (st : Nat → Option Ty) (O : Nat → Ty) (par pos : Nat → Nat), en = .returned (.tuple #[.slice a js.length c, .bool true]) ∧ w'.ownsRow w.heap.size 3 1 (.slice a js.length c) js.length (ints js) ∧
       js.Nodup ∧ (∀ x, x ∈ js ↔ ∃ v ∈ joined, x = ((v : Nat) : Int)) ∧ SmM n0 nm0 st0 r0 ts g0 bud u [] joined N e g nm st O par pos)
theorem row0_take (vs : List Nat) (j : Nat) (h : j < vs.length) : (row0 vs).take (j + 1) = (row0 vs).take j ++ [(vs.headD 0, vs.getD j 0)] := by
  unfold row0
  rw [List.take_add_one, List.getElem?_map, List.getElem?_eq_getElem h, List.getD_eq_getElem?_getD, List.getElem?_eq_getElem h]
  rfl
theorem row0_len (vs : List Nat) : (row0 vs).length = vs.length := by unfold row0; rw [List.length_map]
theorem tget_V (vs : List Nat) {j : Nat} (h : j < vs.length) : tget (vs.map tyV) j = tyV (vs.getD j 0) := by
  unfold tget
  rw [List.getD_eq_getElem?_getD, List.getElem?_map, List.getD_eq_getElem?_getD, List.getElem?_eq_getElem h]
  rfl
theorem new_pair {w : World} {N a b : Nat} {q q' : Option Addr} {c c' : Nat} {ty : TypeId} (hN : N = w.heap.size) (j : Nat) : ∀ u, (pcells a b q q' c c')[j]? = some u → (w.alloc (.cells #[.int .u8 5, .int .i64 (a : Int), .slice q 0 c, .int .u8 5, .int .i64 (b : Int), .slice q' 0 c'] ty)).cell? ((⟨N, 0, none⟩ : Addr).add j) = some u := by
  intro u hu
  subst hN
  rw [Addr.add_lit, Nat.zero_add, World.cell?_alloc_mark]
  simpa [pcells, tcells] using hu
theorem one_pair (a b : Nat) (q q' : Option Addr) (c c' : Nat) : ∀ u ∈ pcells a b q q' c c', u.oneCell' = true := by
  intro u hu
  simp [pcells, tcells] at hu
  rcases hu with rfl | rfl | rfl | rfl | rfl | rfl <;> rfl
/-- A kid that is a variable, as memory holds it. -/
theorem kid_at {P : Nat → Bool} {W : World} {p : Option Addr} {vs : List Nat} (h : Kids (veil P W) p (vs.map tyV)) (j : Nat) (hj : j < vs.length) : ∃ b o q c, p = some ⟨b, o, none⟩ ∧ P b = true ∧ b < W.heap.size ∧ c ≤ maxLen ∧
    W.cell? ⟨b, o + j * 3, none⟩ = some (.int .u8 5) ∧ W.cell? ⟨b, o + j * 3 + 1, none⟩ = some (.int .i64 ((vs.getD j 0 : Nat) : Int)) ∧ W.cell? ⟨b, o + j * 3 + 2, none⟩ = some (.slice q 0 c) := by
  obtain ⟨b, o, q, c, rfl, hk, e0, e1, e2⟩ := h.get j (by rw [List.length_map]; exact hj)
  rw [tget_V vs hj] at e0 e1 e2 hk
  have f0 := veil_seen e0
  refine ⟨b, o, q, c, rfl, f0.1, ?_, hk.cap.2, f0.2, (veil_seen e1).2, (veil_seen e2).2⟩
  have := f0.2
  unfold World.cell? at this
  cases hb : W.heap[b]? with
  | none => rw [hb] at this; cases this
  | some x => exact (Array.getElem?_eq_some_iff.1 hb).1
theorem c6 {W : World} {N : Nat} {a b c d e f : Value} {ty : TypeId} (h : W.heap[N]? = some (.cells #[a, b, c, d, e, f] ty (0, 0))) :
    (W.cell? ⟨N, 0, none⟩ = some a ∧ W.cell? ⟨N, 1, none⟩ = some b ∧ W.cell? ⟨N, 2, none⟩ = some c ∧ W.cell? ⟨N, 3, none⟩ = some d ∧ W.cell? ⟨N, 4, none⟩ = some e ∧ W.cell? ⟨N, 5, none⟩ = some f) ∧ N < W.heap.size := by
  refine ⟨?_, lt_of_block h⟩
  simp [World.cell?, h]
theorem Sm.rowAs {P P1 : Nat → Bool} {k : Bk} {u : Up} {n : Nat} {e : Nat → Option Ty} {g : Nat → Bool} {w W : World} {vr vj vr' : Value} (h : Sm P k u n e g w P1 vr vj W) (hv : vr'.ownBlock = vr.ownBlock) : Sm P k u n e g w P1 vr' vj W :=
  { h with r := fun b e => h.r b (hv ▸ e), ne := fun b e => h.ne b (hv ▸ e) }
theorem Sm.back {P P1 : Nat → Bool} {k : Bk} {u : Up} {n : Nat} {e : Nat → Option Ty} {g : Nat → Bool} {w W : World} {vr vj : Value} (h : Sm P k u n e g w P1 vr vj W) (h1 : P k.b = false) (h2 : P k.s = false) (h3 : P k.i = false) (h4 : ∀ x, u = some x → P x.1.b = false ∧ P x.1.s = false) : TBk P W k u n e g :=
  h.tb.reP (veil_to fun b hb hp => ⟨h.le b hp, rfl⟩) h1 h2 h3 h4
theorem zip_take (aa bb : List Nat) (i : Nat) (h1 : i < aa.length) (h2 : i < bb.length) : (aa.zip bb).take (i + 1) = (aa.zip bb).take i ++ [(aa.getD i 0, bb.getD i 0)] := by
  rw [List.take_add_one, List.getD_eq_getElem?_getD, List.getD_eq_getElem?_getD, List.getElem?_eq_getElem h1, List.getElem?_eq_getElem h2, List.getElem?_eq_getElem (by rw [List.length_zip]; omega), List.getElem_zip]
  rfl
theorem new_ints {w : World} {N : Nat} {x y : Int} {ty : TypeId} (hN : N = w.heap.size) (j : Nat) : ∀ u, [Value.int .i64 x, Value.int .i64 y][j]? = some u → (w.alloc (.cells #[.int .i64 x, .int .i64 y] ty)).cell? ((⟨N, 0, none⟩ : Addr).add j) = some u := by
  intro u hu
  subst hN
  rw [Addr.add_lit, Nat.zero_add, World.cell?_alloc_mark]
  simpa using hu
theorem one_ints (x y : Int) : ∀ u ∈ [Value.int .i64 x, Value.int .i64 y], u.oneCell' = true := by
  intro u hu
  simp at hu
  rcases hu with rfl | rfl <;> rfl
set_option maxRecDepth 100000 in
set_option maxHeartbeats 12800000 in
theorem same_walk (P : Nat → Bool) (k k0 : Bk) (n0 : Nat) (e0 : Nat → Option Ty) (g0 : Nat → Bool) (nm0 : Nat → Nat) (st0 : Nat → Option Ty) (r0 : Nat → Nat) (ts : List Ty) (p : Option Addr) (l d bud : Nat) (w : World)
    (hT : TBk P w k (some (k0, n0, e0)) n0 (fun _ => none) g0) (hR : Rep e0 nm0 st0) (hb : Bo n0 nm0 st0 g0 r0) (hK : Kids (veil P w) p ts) (hl : ts.length = l)
    (hm : ∀ s ∈ ts, mayT s = true ∧ (∀ w ∈ varsT s, w < n0) ∧ (s.h.k ≠ 5 → ∀ w ∈ varsT s, g0 (nm0 w) = true))
    (hbud : n0 + sO n0 st0 + nvK ts ≤ bud) (hbl : bud + l + 8 < 1000000000) (hP : ∀ b, w.heap.size ≤ b → P b = true) :
    Calls Tryd.prog 34 #[.pointer (some ⟨k.b, 0, none⟩), .slice p l d] w (SameEnd P k (some (k0, n0, e0)) n0 nm0 st0 r0 ts g0 bud w) := by
  have hnf : ∀ v, n0 ≤ v → cmb (some (k0, n0, e0)) (fun _ => none) v = none := fun v hv => hT.none_out v hv
  have hstart := SmM.start (u := some (k0, n0, e0)) (e := fun _ => none) (bud := bud) hb hR hnf hm hbud
  have hop := opened_walk P k _ n0 _ g0 ts p l d w hT hK hl (fun s hs => (hm s hs).1) (by omega) hP
  have hvv : ∀ s ∈ ts, ∀ w ∈ varsT s, w < n0 := fun s hs => (hm s hs).2.1
  obtain ⟨i0, hi, hz0, hz1, hz2⟩ := info_parts infoPair
  obtain ⟨i1, ji, jz0, jz1, jz2⟩ := info_parts infoInt
  have HI := Lib.hid hi; have HZ0 := Lib.hid hz0; have HZ1 := Lib.hid hz1; have HZ2 := Lib.hid hz2
  have JI := Lib.hid ji; have JZ0 := Lib.hid jz0; have JZ1 := Lib.hid jz1; have JZ2 := Lib.hid jz2
  have HST := Lib.hid hstart; have HOP := Lib.hid hop; have HVV := Lib.hid hvv; have HB := Lib.hid hb; have HLOW := Lib.hid hT.all_low; have HP := Lib.hid hP; have HT := Lib.hid hT
  have HLN := Lib.hid (opV_len ts n0)
  have HBL := Lib.hid hbl; have HL := Lib.hid hl; have HUP := Lib.hid hT.upP
  have hlx : (l : Int) < 1000000000 := by omega
  clear hnf hstart hop hvv hi hz0 hz1 hz2 ji jz0 jz1 jz2 hT hR hb hK hm hbud hP hbl hl
  go_enter Tryd.func34, Tryd.ntmps34
  go_wp2_with (fail)
  refine HOP.out.mono ?_
  rintro en w1 ⟨q, c1, rfl, hc1, hc2, hkd, hT1, hk1⟩
  obtain ⟨O1, par1, pos1, hsm⟩ := HST.out
  obtain ⟨vs, hvs⟩ : ∃ vs, vs = opV n0 ts := ⟨_, rfl⟩
  obtain ⟨N1, hN1⟩ : ∃ N1, N1 = opN n0 ts := ⟨_, rfl⟩
  obtain ⟨E1, hE1⟩ : ∃ E1, E1 = opF (fun _ => none) n0 ts := ⟨_, rfl⟩
  rw [HL.out]
  rw [← hvs] at hkd hsm
  rw [← hN1, ← hE1] at hT1 hsm
  have hvl : vs.length = l := by rw [hvs, HLN.out, HL.out]
  have hSm : Sm P k (some (k0, n0, e0)) N1 E1 g0 w P (.slice none 0 0) (.slice none 0 0) w1 := ⟨fun b h => h, fun b hb => HP.out b (Nat.le_trans hk1.size hb), fun b e => (by cases e), fun b e => (by cases e), fun b e => (by cases e), hT1, hk1.mono fun b hb => decide_eq_true ⟨(of_decide_eq_true hb).1, (of_decide_eq_true hb).2.1⟩, HLOW.out⟩
  have HSM0 := Lib.hid hsm; have HS1 := Lib.hid hSm; have HKD := Lib.hid hkd; have HVL := Lib.hid hvl; have HW1 := Lib.hid hk1.size
  clear hc1 hc2 hkd hT1 hk1 hsm hSm hvl HST HOP hvs hN1 hE1
  go_wp2_with (fail)
  go_loopw [7, 24] (fun row i wr => ∃ (j : Nat) (vr : Value) (xs : List Value) (P1 : Nat → Bool), j ≤ l ∧ i = .int .i64 j ∧ row = vr ∧ Hid (wr.ownsRow w.heap.size 82 6 vr j xs) ∧ Hid (FlatR xs ((row0 vs).take j)) ∧ Hid (Sm P k (some (k0, n0, e0)) N1 E1 g0 w P1 vr (.slice none 0 0) wr) ∧ Hid (Kids (veil P1 wr) q (vs.map tyV))) (fun _ i _ => l - (intOf i).toNat)
  case atStart => exact ⟨0, .slice none 0 0, [], P, Nat.zero_le _, rfl, rfl, Lib.hid (World.ownsRow_nil _ _ _ _), Lib.hid FlatR.nil, HS1, HKD⟩
  case round =>
    obtain ⟨j, vr, xs, P1, hj, rfl, hvr, HO, HF, HS, HKK⟩ := hrel
    subst u7
    clear HKD HS1
    by_cases hlt : j < l
    · have hl0 : (0 : Int) < (l : Int) := by omega
      have hjv : j < vs.length := by rw [HVL.out]; exact hlt
      obtain ⟨b, o, q0, d0, rfl, hpb, hbs, hd0, e0', e1', e2'⟩ := kid_at HKK.out 0 (by omega)
      obtain ⟨b', o', qj, dj, hq, -, -, hdj, f0, f1, f2⟩ := kid_at HKK.out j hjv
      obtain ⟨rfl, rfl⟩ : b = b' ∧ o = o' := by cases hq; exact ⟨rfl, rfl⟩
      obtain ⟨x0, hx0⟩ : ∃ x0, x0 = vs.getD 0 0 := ⟨_, rfl⟩
      obtain ⟨xj, hxj⟩ : ∃ xj, xj = vs.getD j 0 := ⟨_, rfl⟩
      rw [← hx0] at e1'
      rw [← hxj] at f1
      have hhd : vs.headD 0 = x0 := by rw [hx0]; cases vs <;> rfl
      have hbr : vr.ownBlock ≠ some b := fun e => by have := (HS.out.r b e).1; rw [hpb] at this; cases this
      rw [Nat.zero_mul, Nat.add_zero] at e0' e1' e2'
      have HX := Lib.hid (And.intro hhd hxj); have HBR := Lib.hid hbr; have HJV := Lib.hid hjv; have HE := Lib.hid (And.intro e0' (And.intro e1' e2')); have HBS := Lib.hid hbs
      clear hx0 hxj hhd hbr hjv hq hpb hd0 hdj
      go_upto_region 7 with (fail)
      have HN4 := Lib.hid (heap_alloc_new wr (.cells #[.int .u8 5, .int .i64 (xj : Int), .slice qj 0 dj] 25))
      have hrb : ∀ b, vr.ownBlock = some b → b < wr.heap.size := fun b e => (own_row_lt HO.out e).1
      have hvr8 : vr.ownBlock ≠ some wr.heap.size := fun e => by have := hrb _ e; omega
      have hS4 := HS.out.below (al_new (W := wr) (.cells #[.int .u8 5, .int .i64 (xj : Int), .slice qj 0 dj] 25))
      have hb4 := al_new (W := wr) (.cells #[.int .u8 5, .int .i64 (xj : Int), .slice qj 0 dj] 25)
      have hz4 : (wr.alloc (.cells #[.int .u8 5, .int .i64 (xj : Int), .slice qj 0 dj] 25)).heap.size = wr.heap.size + 1 := by simp
      have HB4 := Lib.hid (hb4.block b hbs)
      have HO4 := Lib.hid (own_all HO.out hb4); have HS4 := Lib.hid hS4; have HK4 := Lib.hid ((Kp.of_below (P := P1) hb4).kids HKK.out); have HZ4 := Lib.hid hz4; have HRB := Lib.hid hrb; have HV8 := Lib.hid hvr8
      clear e0' e1' e2' f0 f1 f2 hbs hrb hvr8 hS4 hb4 hz4 HO HS HKK
      generalize hw4 : wr.alloc (.cells #[.int .u8 5, .int .i64 (xj : Int), .slice qj 0 dj] 25) = w4 at *
      clear hw4
      refine wp_region_held_drew (S := fun V => ∀ i, i < wr.heap.size + 1 → vr.ownBlock ≠ some i → V.heap[i]? = w4.heap[i]?) (by kernel_rfl) (fun _ _ _ => rfl) (fun hHeld => ?_)
      refine wpAnyH_take (i := 0) (v := vr) rfl (by kernel_rfl) (by kernel_rfl) (by kernel_rfl) (fun _ _ _ h => h) (Or.inl ⟨by rfl, ?_⟩) (by assumption) ?_
      · intro w' hSw
        first | (go_simp; done) | (go_simp; intro h0; omega) | rfl
      try simp only [Act.put, List.getElem_toArray, List.getElem_cons_succ, List.getElem_cons_zero, List.setIfInBounds_toArray, List.set_cons_zero, List.set_cons_succ]
      refine wpAnyH_take (i := 1) (v := .slice (some ⟨b, o, none⟩) l c1) rfl (by kernel_rfl) (by kernel_rfl) (by kernel_rfl) (fun _ _ _ h => h) (Or.inl ⟨by rfl, ?_⟩) (by assumption) ?_
      · intro w' hSw
        first | (go_simp; done) | (go_simp; intro h0; omega) | rfl
      try simp only [Act.put, List.getElem_toArray, List.getElem_cons_succ, List.getElem_cons_zero, List.setIfInBounds_toArray, List.set_cons_zero, List.set_cons_succ]
      refine wpAnyH_take (i := 2) (v := .pointer (some ⟨b, o, none⟩)) rfl (by kernel_rfl) (by kernel_rfl) (by kernel_rfl) (fun _ _ _ h => h) (Or.inl ⟨by rfl, ?_⟩) (by assumption) ?_
      · intro w' hSw
        first | (go_simp; done) | (go_simp; intro h0; omega) | rfl
      try simp only [Act.put, List.getElem_toArray, List.getElem_cons_succ, List.getElem_cons_zero, List.setIfInBounds_toArray, List.set_cons_zero, List.set_cons_succ]
      refine wpAnyH_take (i := 3) (v := .agg #[.int .u8 5, .int .i64 (x0 : Int), .slice q0 0 d0]) rfl (by kernel_rfl) (by kernel_rfl) (by kernel_rfl) (fun _ _ _ h => h) (Or.inl ⟨by rfl, ?_⟩) (by assumption) ?_
      · intro w' hSw
        have hcs : ∀ i, w'.cell? ⟨b, i, none⟩ = wr.cell? ⟨b, i, none⟩ := fun i => cell_same ((hSw b (by have := HBS.out; omega) HBR.out).trans HB4.out)
        have y0 := (hcs o).trans HE.out.1
        have y1 := (hcs (o + 1)).trans HE.out.2.1
        have y2 := (hcs (o + 2)).trans HE.out.2.2
        clear hcs
        first | (go_simp; done) | (go_simp; intro h0; omega) | rfl
      try simp only [Act.put, List.getElem_toArray, List.getElem_cons_succ, List.getElem_cons_zero, List.setIfInBounds_toArray, List.set_cons_zero, List.set_cons_succ]
      refine wpAnyH_take (i := 4) (v := .agg #[.int .u8 5, .int .i64 (xj : Int), .slice qj 0 dj]) rfl (by kernel_rfl) (by kernel_rfl) (by kernel_rfl) (fun _ _ _ h => h) (Or.inl ⟨by rfl, ?_⟩) (by assumption) ?_
      · intro w' hSw
        obtain ⟨⟨d0, d1, d2⟩, -, dl⟩ := c3 ((hSw _ (by omega) HV8.out).trans HN4.out)
        first | (go_simp; done) | (go_simp; intro h0; omega) | rfl
      try simp only [Act.put, List.getElem_toArray, List.getElem_cons_succ, List.getElem_cons_zero, List.setIfInBounds_toArray, List.set_cons_zero, List.set_cons_succ]
      refine wpAnyH_take (i := 5) (v := .agg #[.int .u8 5, .int .i64 (x0 : Int), .slice q0 0 d0, .int .u8 5, .int .i64 (xj : Int), .slice qj 0 dj]) rfl (by kernel_rfl) (by kernel_rfl) (by kernel_rfl) (fun _ _ _ h => h) (Or.inl ⟨by rfl, ?_⟩) (by assumption) ?_
      · intro w' hSw
        first | (go_simp; done) | (go_simp; intro h0; omega) | rfl
      try simp only [Act.put, List.getElem_toArray, List.getElem_cons_succ, List.getElem_cons_zero, List.setIfInBounds_toArray, List.set_cons_zero, List.set_cons_succ]
      refine wpAnyH_ready (rs := [6]) (by kernel_rfl) (by simp) ?_
      refine AllReadyH.cons rfl (fun K hK => ?_) AllReadyH.nil
      have HK2 := Lib.hid hK
      clear hK
      try rw [if_pos (by rfl)]
      go_simp
      refine HK2.out _ _ (fun i hi hv => (al_new (W := w4) (.cells #[.int .u8 5, .int .i64 (x0 : Int), .slice q0 0 d0, .int .u8 5, .int .i64 (xj : Int), .slice qj 0 dj] 82)).block i (by rw [HZ4.out]; exact hi)) (fun hHeld => ?_)
      clear HK2
      try simp only [Act.put, List.getElem_toArray, List.getElem_cons_succ, List.getElem_cons_zero, List.setIfInBounds_toArray, List.set_cons_zero, List.set_cons_succ]
      clear K
      have hb5 : Below w4.heap.size w4 (w4.alloc (.cells #[.int .u8 5, .int .i64 (x0 : Int), .slice q0 0 d0, .int .u8 5, .int .i64 (xj : Int), .slice qj 0 dj] 82)).drew := ((Below.refl _ _).alloc (Nat.le_refl _) _).drew
      have HN5 := Lib.hid (show ∀ j u, (pcells x0 xj q0 qj d0 dj)[j]? = some u → ((w4.alloc (.cells #[.int .u8 5, .int .i64 (x0 : Int), .slice q0 0 d0, .int .u8 5, .int .i64 (xj : Int), .slice qj 0 dj] 82)).drew).cell? ((⟨w4.heap.size, 0, none⟩ : Addr).add j) = some u from fun j => new_pair (w := w4) rfl j)
      have HO5 := Lib.hid (own_all HO4.out hb5); have HS5 := Lib.hid (HS4.out.below hb5); have HK5 := Lib.hid ((Kp.of_below (P := P1) hb5).kids HK4.out)
      have HZ45 := Lib.hid hb5.size; have HB5 := Lib.hid (fun i (hi : i < wr.heap.size + 1) => hb5.block i (by rw [HZ4.out]; exact hi))
      have HZ5 := Lib.hid (Nat.le_trans HS4.out.kp.size hb5.size)
      clear hb5
      generalize hw5 : (w4.alloc (.cells #[.int .u8 5, .int .i64 (x0 : Int), .slice q0 0 d0, .int .u8 5, .int .i64 (xj : Int), .slice qj 0 dj] 82)).drew = w5 at *
      clear hw5
      refine wpAnyH_ready (rs := [7]) (by kernel_rfl) (by simp) ?_
      refine AllReadyH.cons rfl (fun K hK => ?_) AllReadyH.nil
      have HK2 := Lib.hid hK
      clear hK
      try rw [if_pos (by rfl)]
      refine wp_append_own (.tmp 28) (.tmp 34) 80 w.heap.size 82 i0 _ 6 80 Tryd.underlying80 HI.out HZ0.out HZ1.out HZ2.out rfl (by decide) vr j xs rfl HO5.out ⟨w4.heap.size, 0, none⟩ 1 1 (pcells x0 xj q0 qj d0 dj) rfl rfl HN5.out (one_pair _ _ _ _ _ _) (by unfold maxLen; omega) (by omega) HZ5.out ?_
      intro v' w6 hown hgr hat
      have HO6 := Lib.hid hown; have HS6 := Lib.hid (HS5.out.growR hgr hat (fun b e => (own_row_lt hown e).1) (fun b e => (by cases e))); have HK6 := Lib.hid (seen_kids HK5.out hgr (fun b e => (HS5.out.r b e).1) hat)
      have HB6 := Lib.hid (fun i (hi : i < wr.heap.size + 1) (hv : vr.ownBlock ≠ some i) => (hgr.block i (by have := HZ45.out; have := HZ4.out; omega) (fun e => hv e.symm)).trans (HB5.out i hi))
      clear hown hgr hat HO5 HS5 HK5
      refine HK2.out _ _ HB6.out (fun hHeld => ?_)
      clear HK2
      try simp only [Act.put, List.getElem_toArray, List.getElem_cons_succ, List.getElem_cons_zero, List.setIfInBounds_toArray, List.set_cons_zero, List.set_cons_succ]
      clear K
      refine wpAnyH_take (i := 8) (v := v') rfl (by kernel_rfl) (by kernel_rfl) (by kernel_rfl) (fun _ _ _ h => h) (Or.inl ⟨by rfl, ?_⟩) (by assumption) ?_
      · intro w' hSw
        first | (go_simp; done) | (go_simp; intro h0; omega) | rfl
      try simp only [Act.put, List.getElem_toArray, List.getElem_cons_succ, List.getElem_cons_zero, List.setIfInBounds_toArray, List.set_cons_zero, List.set_cons_succ]
      refine wpAnyH_done (by kernel_rfl) ?_ _
      clear hHeld HB5 HB6 HO4 HS4 HK4
      go_wp2_with (fail)
      go_roundw
      case rel => exact ⟨j + 1, v', _, _, by omega, by go_num, rfl, HO6, Lib.hid (by rw [row0_take vs j HJV.out, HX.out.1, ← HX.out.2]; exact HF.out.snoc x0 xj q0 qj d0 dj), HS6, HK6⟩
      case measure => simp [intOf]; omega
    · obtain rfl : j = l := by omega
      have hf := HF.out
      rw [List.take_of_length_le (by rw [row0_len, HVL.out]; exact Nat.le_refl _)] at hf
      have hrl : (row0 vs).length = j := by rw [row0_len, HVL.out]
      have hown := HO.out
      have hfew := HSM0.out.few
      have HO0 := Lib.hid (show wr.ownsRow w.heap.size 82 6 vr (row0 vs).length xs from by rw [hrl]; exact hown)
      have HF0 := Lib.hid hf; have HC0 := Lib.hid (show (row0 vs).length + 2 * sS N1 nm0 (opF st0 n0 ts) ≤ j + 4 * bud by rw [hrl]; omega)
      have HS0 := HS
      clear hf hrl hown hfew HF HO HS HKK
      go_wp2_with (fail)
      go_loopg [6, 7] (j + 4 * bud) (fun gk jn row wr => ∃ (vj vr : Value) (r : List (Nat × Nat)) (xs : List Value) (jl : List Nat) (P1 : Nat → Bool) (N : Nat) (E : Nat → Option Ty) (g : Nat → Bool) (nm : Nat → Nat) (st : Nat → Option Ty) (O : Nat → Ty) (par pos : Nat → Nat), jn = vj ∧ row = vr ∧
        Hid (wr.ownsRow w.heap.size 82 6 vr r.length xs ∧ FlatR xs r) ∧ Hid (wr.ownsRow w.heap.size 3 1 vj jl.length (ints (jl.map fun v => ((v : Nat) : Int)))) ∧ Hid (Sm P k (some (k0, n0, e0)) N E g w P1 vr vj wr) ∧ Hid (SmM n0 nm0 st0 r0 ts g0 bud (some (k0, n0, e0)) r jl N E g nm st O par pos) ∧ Hid (r.length + 2 * sS N nm st ≤ gk ∧ jl.length + 2 * gk ≤ 2 * (j + 4 * bud)))
      case atStart => exact ⟨_, _, row0 vs, xs, [], P1, N1, E1, g0, nm0, _, O1, par1, pos1, rfl, rfl, Lib.hid ⟨HO0.out, HF0.out⟩, Lib.hid (World.ownsRow_nil _ _ _ _), HS0, HSM0, Lib.hid ⟨HC0.out, by show 0 + 2 * _ ≤ _; omega⟩⟩
      case round =>
        obtain ⟨vj, vr', r, xs', jl, P2, N, E, g, nm, st, O, par, pos, hvj, hvr, HR, HJ, HS, HM, HG⟩ := hrel
        subst u6 u7
        clear HO0 HF0 HC0 HS0 HSM0
        obtain ⟨a, c, hva, hca, hnc⟩ := own_slice HR.out.1
        subst vr'
        rcases Nat.eq_zero_or_pos r.length with hr0 | hrp
        · obtain rfl : r = [] := List.eq_nil_of_length_eq_zero hr0
          obtain ⟨aj, cj, hvj, hcj, hnj⟩ := own_slice HJ.out
          subst hvj
          have hjl : jl.length < 8000000000 := by have := HG.out; have := HBL.out; omega
          have hso := sort_walk w.heap.size jl.length cj aj (jl.map fun v => ((v : Nat) : Int)) wr HJ.out (by omega)
          have HSO := Lib.hid hso; have HJL := Lib.hid hjl
          clear hso hcj hnj hjl
          go_wp2_with (fail)
          refine HSO.out.mono ?_
          rintro en w2 ⟨rfl, hown2, hk2⟩
          have hne : ∀ b, P2 b = true → (fun b => decide ((Value.slice aj jl.length cj).ownBlock ≠ some b)) b = true := fun b hb => decide_eq_true fun e => by have := (HS.out.j b e).1; rw [this] at hb; cases hb
          have hat := HS.out.apart HS.out.j
          have hT2 := HS.out.tb.kept hk2 hne ⟨decide_eq_true fun e => (hat _ e).2.1 rfl, decide_eq_true fun e => (hat _ e).2.2.1 rfl, decide_eq_true fun e => (hat _ e).2.2.2.1 rfl⟩ fun x hx => ⟨decide_eq_true fun e => ((hat _ e).2.2.2.2 x hx).1 rfl, decide_eq_true fun e => ((hat _ e).2.2.2.2 x hx).2 rfl⟩
          have hlow : ∀ W W', Kp (fun b => decide ((Value.slice aj jl.length cj).ownBlock ≠ some b)) W W' → Kp (fun b => decide (b ≠ k.b ∧ b ≠ k.s ∧ b ≠ k.i)) w W → Kp (fun b => decide (b ≠ k.b ∧ b ≠ k.s ∧ b ≠ k.i)) w W' := fun W W' h1 h2 => ⟨h1.os.trans h2.os, h1.tape.trans h2.tape, h1.output.trans h2.output, Nat.le_trans h2.size h1.size, fun b hb hp => (h1.block b (Nat.lt_of_lt_of_le hb h2.size) (decide_eq_true fun e => by have := (HS.out.j b e).2; omega)).trans (h2.block b hb hp)⟩
          have hco := compact_walk w.heap.size jl.length cj aj _ w2 hown2 (by have := HJL.out; omega)
          have HCO := Lib.hid hco; have HT2 := Lib.hid hT2; have HK2 := Lib.hid (hlow _ _ hk2 HS.out.kp); have HNE := Lib.hid hne; have HAT := Lib.hid hat; have HLO := Lib.hid hlow
          clear hown2 hk2 hne hat hT2 hlow hco HSO
          go_wp2_with (fail)
          refine HCO.out.mono ?_
          rintro en w3 ⟨rfl, hown3, hk3⟩
          have hT3 := HT2.out.kept hk3 HNE.out ⟨decide_eq_true fun e => (HAT.out _ e).2.1 rfl, decide_eq_true fun e => (HAT.out _ e).2.2.1 rfl, decide_eq_true fun e => (HAT.out _ e).2.2.2.1 rfl⟩ fun x hx => ⟨decide_eq_true fun e => ((HAT.out _ e).2.2.2.2 x hx).1 rfl, decide_eq_true fun e => ((HAT.out _ e).2.2.2.2 x hx).2 rfl⟩
          have HFIN := Lib.hid (show SameEnd P k (some (k0, n0, e0)) n0 nm0 st0 r0 ts g0 bud w (.returned (.tuple #[.slice aj (Lib.compact ((jl.map fun v => ((v : Nat) : Int)).mergeSort fun x y => decide (x ≤ y))).length cj, .bool true])) w3 from ⟨N, E, g, hT3.reP (veil_to fun b hb hp => ⟨HS.out.le b hp, rfl⟩) HT.out.me.pb HT.out.me.ps HT.out.me.pi HT.out.upP, HLO.out _ _ hk3 HK2.out, HM.out.more, .inr ⟨aj, cj, _, jl, nm, st, O, par, pos, rfl, hown3, tidy_nodup _, fun x => by
            rw [mem_tidy, List.mem_map]
            constructor
            · rintro ⟨v, hv, e⟩; exact ⟨v, hv, e.symm⟩
            · rintro ⟨v, hv, e⟩; exact ⟨v, hv, e.symm⟩, HM.out⟩⟩)
          clear hT3 hk3 hown3
          go_wp2_with (fail)
          exact bodyPost_ret (by simp [results, Tryd.results34, go_sem]) rfl HFIN.out
        · obtain ⟨ys, r', x, y, qx, qy, cx, cy, hxs, hr', hfr⟩ := HR.out.2.last hrp
          obtain ⟨m, hm⟩ : ∃ m, m = r'.length := ⟨_, rfl⟩
          have hrl : r.length = m + 1 := by rw [hr', List.length_append, hm]; rfl
          have hown := HR.out.1
          rw [hrl, hxs] at hown
          obtain ⟨b, rfl, hbb, hown', p0, p1, p2, p3, p4, p5⟩ := own_last hown
          rw [hrl]
          have hxy : x < N ∧ y < N := HM.out.tri.rowlt (x, y) (by rw [hr']; simp)
          have hmc : (m : Int) ≤ (c : Int) := by omega
          have hmi : (m : Int) < 8000000000 := by have := HG.out; have := HBL.out; omega
          have HM' := HM.out
          rw [hr'] at HM'
          have HM2 := Lib.hid HM'; have HOW := Lib.hid hown'; have HFR := Lib.hid hfr; have HXY := Lib.hid hxy; have HMM := Lib.hid hm; have HRL := Lib.hid hrl
          clear hxs hr' hfr hm hrl hown hown' hxy HM' hrp hnc hca
          have hb4 := al_new (W := wr) (.cells #[.int .u8 5, .int .i64 (x : Int), .slice qx 0 cx, .int .u8 5, .int .i64 (y : Int), .slice qy 0 cy] 82)
          have hz4 : (wr.alloc (.cells #[.int .u8 5, .int .i64 (x : Int), .slice qx 0 cx, .int .u8 5, .int .i64 (y : Int), .slice qy 0 cy] 82)).heap.size = wr.heap.size + 1 := by simp
          have HN4 := Lib.hid (heap_alloc_new wr (.cells #[.int .u8 5, .int .i64 (x : Int), .slice qx 0 cx, .int .u8 5, .int .i64 (y : Int), .slice qy 0 cy] 82))
          have HJ4 := Lib.hid (own_all HJ.out hb4); have HO4 := Lib.hid (own_all HOW.out hb4); have HS4 := Lib.hid (HS.out.below hb4)
          have HZ4 := Lib.hid hz4
          have hks : wr.heap.size ≠ k.s ∧ wr.heap.size ≠ k.b ∧ wr.heap.size ≠ k.i := by have := HLOW.out.1; have := HS.out.kp.size; omega
          have HKS := Lib.hid hks
          clear hb4 hz4 hks
          go_upto_region 12 with (fail)
          clear p0 p1 p2 p3 p4 p5
          clear HJ HOW HS
          generalize hw4 : wr.alloc (.cells #[.int .u8 5, .int .i64 (x : Int), .slice qx 0 cx, .int .u8 5, .int .i64 (y : Int), .slice qy 0 cy] 82) = w4 at *
          clear hw4
          refine wp_region_held_drew (S := fun V => V.heap[wr.heap.size]? = w4.heap[wr.heap.size]?) (by kernel_rfl) rfl (fun hHeld => ?_)
          refine wpAnyH_take (i := 0) (v := .pointer (some ⟨k.b, 0, none⟩)) rfl (by kernel_rfl) (by kernel_rfl) (by kernel_rfl) (fun _ _ _ h => h) (Or.inl ⟨by rfl, ?_⟩) (by assumption) ?_
          · intro w' hSw
            first | (go_simp; done) | (go_simp; intro h0; omega) | rfl
          try simp only [Act.put, List.getElem_toArray, List.getElem_cons_succ, List.getElem_cons_zero, List.setIfInBounds_toArray, List.set_cons_zero, List.set_cons_succ]
          refine wpAnyH_take (i := 1) (v := .pointer (some ⟨wr.heap.size, 0, none⟩)) rfl (by kernel_rfl) (by kernel_rfl) (by kernel_rfl) (fun _ _ _ h => h) (Or.inl ⟨by rfl, ?_⟩) (by assumption) ?_
          · intro w' hSw
            first | (go_simp; done) | (go_simp; intro h0; omega) | rfl
          try simp only [Act.put, List.getElem_toArray, List.getElem_cons_succ, List.getElem_cons_zero, List.setIfInBounds_toArray, List.set_cons_zero, List.set_cons_succ]
          refine wpAnyH_take (i := 2) (v := .pointer (some ⟨wr.heap.size, 1, none⟩)) rfl (by kernel_rfl) (by kernel_rfl) (by kernel_rfl) (fun _ _ _ h => h) (Or.inl ⟨by rfl, ?_⟩) (by assumption) ?_
          · intro w' hSw
            first | (go_simp; done) | (go_simp; intro h0; omega) | rfl
          try simp only [Act.put, List.getElem_toArray, List.getElem_cons_succ, List.getElem_cons_zero, List.setIfInBounds_toArray, List.set_cons_zero, List.set_cons_succ]
          refine wpAnyH_take (i := 3) (v := .int .i64 (x : Int)) rfl (by kernel_rfl) (by kernel_rfl) (by kernel_rfl) (fun _ _ _ h => h) (Or.inl ⟨by rfl, ?_⟩) (by assumption) ?_
          · intro w' hSw
            obtain ⟨⟨y0, y1, y2, y3, y4, y5⟩, yl⟩ := c6 (hSw.trans HN4.out)
            first | (go_simp; done) | (go_simp; intro h0; omega) | rfl
          try simp only [Act.put, List.getElem_toArray, List.getElem_cons_succ, List.getElem_cons_zero, List.setIfInBounds_toArray, List.set_cons_zero, List.set_cons_succ]
          refine wpAnyH_take (i := 5) (v := .pointer (some ⟨k.b, 0, none⟩)) rfl (by kernel_rfl) (by kernel_rfl) (by kernel_rfl) (fun _ _ _ h => h) (Or.inl ⟨by rfl, ?_⟩) (by assumption) ?_
          · intro w' hSw
            first | (go_simp; done) | (go_simp; intro h0; omega) | rfl
          try simp only [Act.put, List.getElem_toArray, List.getElem_cons_succ, List.getElem_cons_zero, List.setIfInBounds_toArray, List.set_cons_zero, List.set_cons_succ]
          refine wpAnyH_take (i := 6) (v := .pointer (some ⟨wr.heap.size, 3, none⟩)) rfl (by kernel_rfl) (by kernel_rfl) (by kernel_rfl) (fun _ _ _ h => h) (Or.inl ⟨by rfl, ?_⟩) (by assumption) ?_
          · intro w' hSw
            first | (go_simp; done) | (go_simp; intro h0; omega) | rfl
          try simp only [Act.put, List.getElem_toArray, List.getElem_cons_succ, List.getElem_cons_zero, List.setIfInBounds_toArray, List.set_cons_zero, List.set_cons_succ]
          refine wpAnyH_take (i := 7) (v := .pointer (some ⟨wr.heap.size, 4, none⟩)) rfl (by kernel_rfl) (by kernel_rfl) (by kernel_rfl) (fun _ _ _ h => h) (Or.inl ⟨by rfl, ?_⟩) (by assumption) ?_
          · intro w' hSw
            first | (go_simp; done) | (go_simp; intro h0; omega) | rfl
          try simp only [Act.put, List.getElem_toArray, List.getElem_cons_succ, List.getElem_cons_zero, List.setIfInBounds_toArray, List.set_cons_zero, List.set_cons_succ]
          refine wpAnyH_take (i := 8) (v := .int .i64 (y : Int)) rfl (by kernel_rfl) (by kernel_rfl) (by kernel_rfl) (fun _ _ _ h => h) (Or.inl ⟨by rfl, ?_⟩) (by assumption) ?_
          · intro w' hSw
            obtain ⟨⟨y0, y1, y2, y3, y4, y5⟩, yl⟩ := c6 (hSw.trans HN4.out)
            first | (go_simp; done) | (go_simp; intro h0; omega) | rfl
          try simp only [Act.put, List.getElem_toArray, List.getElem_cons_succ, List.getElem_cons_zero, List.setIfInBounds_toArray, List.set_cons_zero, List.set_cons_succ]
          refine wpAnyH_ready (rs := [4]) (by kernel_rfl) (by simp) ?_
          refine AllReadyH.cons rfl (fun K hK => ?_) AllReadyH.nil
          have HK2 := Lib.hid hK
          clear hK
          try rw [if_pos (by rfl)]
          go_simp
          refine (name_walk P2 k (some (k0, n0, e0)) N E g nm st x w4.drew (HS4.out.tb.below ⟨rfl, rfl, rfl, Nat.le_refl _, fun _ _ => rfl⟩) HM2.out.rep HXY.out.1).mono ?_
          rintro en w5 ⟨rfl, E5, hT5, hR5, hk5⟩
          replace hk5 : Kp (fun b => decide (b ≠ k.s)) w4 w5 := ⟨hk5.os, hk5.tape, hk5.output, hk5.size, hk5.block⟩
          have HS5 := Lib.hid (HS4.out.call hT5 (kq_s hk5)); have HM5 := Lib.hid (HM2.out.halved hR5); have HO5 := Lib.hid (own_kp HO4.out hk5 HLOW.out.1.2.1); have HJ5 := Lib.hid (own_kp HJ4.out hk5 HLOW.out.1.2.1)
          have HN5 := Lib.hid (hk5.block wr.heap.size (by rw [HZ4.out]; omega) (ne_true HKS.out.1))
          clear hT5 hR5 hk5
          refine HK2.out _ _ HN5.out (fun hHeld => ?_)
          clear HK2
          try simp only [Act.put, List.getElem_toArray, List.getElem_cons_succ, List.getElem_cons_zero, List.setIfInBounds_toArray, List.set_cons_zero, List.set_cons_succ]
          clear K
          clear HS4 HM2 HO4 HJ4
          refine wpAnyH_ready (rs := [9]) (by kernel_rfl) (by simp) ?_
          refine AllReadyH.cons rfl (fun K hK => ?_) AllReadyH.nil
          have HK2 := Lib.hid hK
          clear hK
          try rw [if_pos (by rfl)]
          go_simp
          refine (name_walk P2 k (some (k0, n0, e0)) N E5 g nm st y w5 HS5.out.tb HM5.out.rep HXY.out.2).mono ?_
          rintro en w6 ⟨rfl, E6, hT6, hR6, hk6⟩
          have HS6 := Lib.hid (HS5.out.call hT6 (kq_s hk6)); have HM6 := Lib.hid (HM5.out.halved hR6); have HO6 := Lib.hid (own_kp HO5.out hk6 HLOW.out.1.2.1); have HJ6 := Lib.hid (own_kp HJ5.out hk6 HLOW.out.1.2.1)
          have HN6 := Lib.hid ((hk6.block wr.heap.size (lt_of_block (HN5.out.trans HN4.out)) (ne_true HKS.out.1)).trans HN5.out)
          clear hT6 hR6 hk6
          refine HK2.out _ _ HN6.out (fun hHeld => ?_)
          clear HK2
          try simp only [Act.put, List.getElem_toArray, List.getElem_cons_succ, List.getElem_cons_zero, List.setIfInBounds_toArray, List.set_cons_zero, List.set_cons_succ]
          clear K
          clear HS5 HM5 HO5 HJ5 HN5
          refine wpAnyH_take (i := 10) (v := .int .i64 (nm x : Int)) rfl (by kernel_rfl) (by kernel_rfl) (by kernel_rfl) (fun _ _ _ h => h) (Or.inl ⟨by rfl, ?_⟩) (by assumption) ?_
          · intro w' hSw
            first | (go_simp; done) | (go_simp; intro h0; omega) | rfl
          try simp only [Act.put, List.getElem_toArray, List.getElem_cons_succ, List.getElem_cons_zero, List.setIfInBounds_toArray, List.set_cons_zero, List.set_cons_succ]
          refine wpAnyH_take (i := 11) (v := .int .i64 (nm y : Int)) rfl (by kernel_rfl) (by kernel_rfl) (by kernel_rfl) (fun _ _ _ h => h) (Or.inl ⟨by rfl, ?_⟩) (by assumption) ?_
          · intro w' hSw
            first | (go_simp; done) | (go_simp; intro h0; omega) | rfl
          try simp only [Act.put, List.getElem_toArray, List.getElem_cons_succ, List.getElem_cons_zero, List.setIfInBounds_toArray, List.set_cons_zero, List.set_cons_succ]
          refine wpAnyH_done (by kernel_rfl) ?_ _
          clear hHeld HN6 HN4
          by_cases hxe : nm x = nm y
          · have heq : ((nm x : Nat) : Int) = ((nm y : Nat) : Int) := by rw [hxe]
            have HM7 := Lib.hid (HM6.out.equal hxe)
            have HGG := Lib.hid (show r'.length + 2 * sS N nm st ≤ gk - 1 ∧ jl.length + 2 * (gk - 1) ≤ 2 * (j + 4 * bud) by have := HG.out; have := HRL.out; have := HMM.out; omega)
            have hgk : gk - 1 < gk := by have := HG.out; have := HRL.out; omega
            clear hxe HM6
            go_wp2_with (fail)
            go_roundg (gk - 1)
            case measure => exact hgk
            case rel => exact ⟨_, _, r', ys, jl, P2, N, E6, g, nm, st, O, par, pos, rfl, rfl, Lib.hid (by rw [← HMM.out]; exact ⟨HO6.out, HFR.out⟩), HJ6, Lib.hid (HS6.out.rowAs rfl), HM7, HGG⟩
          · have hbq : (((nm x : Nat) : Int) == ((nm y : Nat) : Int)) = false := beq_eq_false_iff_ne.2 (by omega)
            obtain ⟨lo, hlo⟩ : ∃ lo, lo = min (nm x) (nm y) := ⟨_, rfl⟩
            obtain ⟨hi, hhi⟩ : ∃ hi, hi = max (nm x) (nm y) := ⟨_, rfl⟩
            have hxn := nm_lt HM6.out HXY.out.1
            have hyn := nm_lt HM6.out HXY.out.2
            have hlt : lo < hi ∧ hi < N := by omega
            have hN9 : N + 8 < 1000000000 := by have := HM6.out.bud; have := HBL.out; omega
            have how := one_walk P2 k (some (k0, n0, e0)) N E6 g lo hi w6 HS6.out.tb hlt.1 hlt.2 (by omega) (fun v t hv => HM6.out.rep.may v t hv) HS6.out.new
            have how' : Calls Tryd.prog 52 #[.pointer (some ⟨k.b, 0, none⟩), .int .i64 (min ((nm x : Nat) : Int) ((nm y : Nat) : Int)), .int .i64 (max ((nm x : Nat) : Int) ((nm y : Nat) : Int))] w6 (OneEnd P2 k (some (k0, n0, e0)) N E6 g lo hi w6) := by
              rw [show min ((nm x : Nat) : Int) ((nm y : Nat) : Int) = ((lo : Nat) : Int) by omega, show max ((nm x : Nat) : Int) ((nm y : Nat) : Int) = ((hi : Nat) : Int) by omega]
              exact how
            have HOWN := Lib.hid how'; have HLH := Lib.hid (And.intro hlo hhi); have HXE := Lib.hid hxe; have HLT := Lib.hid hlt; have HN9 := Lib.hid hN9
            clear hlo hhi how how' hxe hxn hyn hlt hN9
            go_upto_region 13 with (fail)
            go_upto_region 14 with (fail)
            go_wp2_with (fail)
            refine HOWN.out.mono ?_
            rintro en w7 ⟨aa, bb, N7, E7, can, q1, q2, d1, d2, ho, rfl, hd1, hd2, hk1, hk2, hT7, hk7⟩
            have hnext := HM6.out.next HB.out HVV.out (fun v hv => HS6.out.tb.none_out v hv) HXE.out HLH.out.1 HLH.out.2 ho
            have HS7 := Lib.hid (HS6.out.call hT7 hk7); have HO7 := Lib.hid (own_kp3 HO6.out hk7 HLOW.out.1); have HJ7 := Lib.hid (own_kp3 HJ6.out hk7 HLOW.out.1); have HKA := Lib.hid hk1; have HKB := Lib.hid hk2; have HNX := Lib.hid hnext
            have HMORE := Lib.hid (show ∀ v, g0 v = true → gU g lo hi v = true from fun v hv => gU_of (HM6.out.more v hv))
            clear ho hd1 hd2 hk1 hk2 hT7 hk7 hnext HOWN HS6 HM6 HO6 HJ6 hbq
            cases can with
            | false =>
              have hno := HNX.out.1 rfl
              have HFIN := Lib.hid (show SameEnd P k (some (k0, n0, e0)) n0 nm0 st0 r0 ts g0 bud w (.returned (.tuple #[.slice none 0 0, .bool false])) w7 from ⟨N7, E7, _, HS7.out.back HT.out.me.pb HT.out.me.ps HT.out.me.pi HT.out.upP, HS7.out.kp, HMORE.out, .inl ⟨rfl, hno⟩⟩)
              clear hno
              go_wp2_with (fail)
              exact bodyPost_ret (by simp [results, Tryd.results34, go_sem]) rfl HFIN.out
            | true =>
              obtain ⟨hlen, hn4, hNN, st', O', par', pos', hM', hS'⟩ := HNX.out.2 rfl
              have hal : aa.length ≤ 8000000000 := by have := HG.out; have := HBL.out; omega
              have HLEN := Lib.hid hlen; have HM7 := Lib.hid hM'; have HS' := Lib.hid hS'
              have HF7 := Lib.hid (show FlatR ys (r' ++ (aa.zip bb).take 0) by rw [List.take_zero, List.append_nil]; exact HFR.out)
              have HR7 := Lib.hid (show w7.ownsRow w.heap.size 82 6 (.slice (some ⟨b, 0, none⟩) m c) (m + 0) ys from HO7.out)
              have HS70 := Lib.hid (HS7.out.rowAs (vr' := .slice (some ⟨b, 0, none⟩) m c) rfl)
              clear hlen hM' hS' hn4 hNN HNX HS7 HO7 hmc
              go_wp2_with (fail)
              go_loopw [7, 80] (fun row i wr => ∃ (i2 : Nat) (vr : Value) (zs : List Value) (P3 : Nat → Bool), i2 ≤ aa.length ∧ i = .int .i64 i2 ∧ row = vr ∧ Hid (wr.ownsRow w.heap.size 82 6 vr (m + i2) zs) ∧ Hid (FlatR zs (r' ++ (aa.zip bb).take i2)) ∧ Hid (Sm P k (some (k0, n0, e0)) N7 E7 (gU g lo hi) w P3 vr vj wr) ∧ Hid (wr.ownsRow w.heap.size 3 1 vj jl.length (ints (jl.map fun v => ((v : Nat) : Int)))) ∧ Hid (Kids (veil P3 wr) q1 (aa.map tyV) ∧ Kids (veil P3 wr) q2 (bb.map tyV))) (fun _ i _ => aa.length - (intOf i).toNat)
              case atStart => exact ⟨0, _, ys, P2, Nat.zero_le _, rfl, rfl, HR7, HF7, HS70, HJ7, Lib.hid ⟨HKA.out, HKB.out⟩⟩
              case round =>
                obtain ⟨i2, vr, zs, P3, hi2, rfl, hvr, HO, HF, HS, HJ, HKK⟩ := hrel
                subst u7
                clear HR7 HF7 HS70 HJ7 HKA HKB
                by_cases hlt2 : i2 < aa.length
                · have hib : i2 < bb.length := by have := HLEN.out; omega
                  obtain ⟨b1, o1, qj, dj, rfl, -, -, hdj, f0, f1, f2⟩ := kid_at HKK.out.1 i2 hlt2
                  obtain ⟨b2, o2, q0, d0, rfl, hpb, hbs, hd0, e0', e1', e2'⟩ := kid_at HKK.out.2 i2 hib
                  obtain ⟨xj, hxj⟩ : ∃ xj, xj = aa.getD i2 0 := ⟨_, rfl⟩
                  obtain ⟨x0, hx0⟩ : ∃ x0, x0 = bb.getD i2 0 := ⟨_, rfl⟩
                  rw [← hx0] at e1'
                  rw [← hxj] at f1
                  have hibI : (i2 : Int) < (bb.length : Int) := by omega
                  have hbr : vr.ownBlock ≠ some b2 := fun e => by have := (HS.out.r b2 e).1; rw [hpb] at this; cases this
                  have HX := Lib.hid (And.intro hx0 hxj); have HBR := Lib.hid hbr; have HJV := Lib.hid (And.intro hlt2 hib); have HE := Lib.hid (And.intro e0' (And.intro e1' e2')); have HBS := Lib.hid hbs
                  clear hx0 hxj hbr hpb hd0 hdj
                  go_upto_region 20 with (fail)
                  have HN4 := Lib.hid (heap_alloc_new wr (.cells #[.int .u8 5, .int .i64 (xj : Int), .slice qj 0 dj] 25))
                  have hrb : ∀ b, vr.ownBlock = some b → b < wr.heap.size := fun b e => (own_row_lt HO.out e).1
                  have hvr8 : vr.ownBlock ≠ some wr.heap.size := fun e => by have := hrb _ e; omega
                  have hb4 := al_new (W := wr) (.cells #[.int .u8 5, .int .i64 (xj : Int), .slice qj 0 dj] 25)
                  have hS4 := HS.out.below hb4
                  have hz4 : (wr.alloc (.cells #[.int .u8 5, .int .i64 (xj : Int), .slice qj 0 dj] 25)).heap.size = wr.heap.size + 1 := by simp
                  have HB4 := Lib.hid (hb4.block b2 hbs)
                  have HO4 := Lib.hid (own_all HO.out hb4); have HJ4 := Lib.hid (own_all HJ.out hb4); have HS4 := Lib.hid hS4; have HK4 := Lib.hid (And.intro ((Kp.of_below (P := P3) hb4).kids HKK.out.1) ((Kp.of_below (P := P3) hb4).kids HKK.out.2)); have HZ4 := Lib.hid hz4; have HRB := Lib.hid hrb; have HV8 := Lib.hid hvr8
                  clear e0' e1' e2' f0 f1 f2 hbs hrb hvr8 hS4 hb4 hz4 HO HS HKK HJ
                  generalize hw4 : wr.alloc (.cells #[.int .u8 5, .int .i64 (xj : Int), .slice qj 0 dj] 25) = w8 at *
                  clear hw4
                  refine wp_region_held_drew (S := fun V => ∀ i, i < wr.heap.size + 1 → vr.ownBlock ≠ some i → V.heap[i]? = w8.heap[i]?) (by kernel_rfl) (fun _ _ _ => rfl) (fun hHeld => ?_)
                  refine wpAnyH_take (i := 0) (v := vr) rfl (by kernel_rfl) (by kernel_rfl) (by kernel_rfl) (fun _ _ _ h => h) (Or.inl ⟨by rfl, ?_⟩) (by assumption) ?_
                  · intro w' hSw
                    first | (go_simp; done) | (go_simp; intro h0; omega) | rfl
                  try simp only [Act.put, List.getElem_toArray, List.getElem_cons_succ, List.getElem_cons_zero, List.setIfInBounds_toArray, List.set_cons_zero, List.set_cons_succ]
                  refine wpAnyH_take (i := 1) (v := .agg #[.int .u8 5, .int .i64 (xj : Int), .slice qj 0 dj]) rfl (by kernel_rfl) (by kernel_rfl) (by kernel_rfl) (fun _ _ _ h => h) (Or.inl ⟨by rfl, ?_⟩) (by assumption) ?_
                  · intro w' hSw
                    obtain ⟨⟨y0, y1, y2⟩, -, yl⟩ := c3 ((hSw _ (by omega) HV8.out).trans HN4.out)
                    first | (go_simp; done) | (go_simp; intro h0; omega) | rfl
                  try simp only [Act.put, List.getElem_toArray, List.getElem_cons_succ, List.getElem_cons_zero, List.setIfInBounds_toArray, List.set_cons_zero, List.set_cons_succ]
                  refine wpAnyH_take (i := 2) (v := .slice (some ⟨b2, o2, none⟩) bb.length d2) rfl (by kernel_rfl) (by kernel_rfl) (by kernel_rfl) (fun _ _ _ h => h) (Or.inl ⟨by rfl, ?_⟩) (by assumption) ?_
                  · intro w' hSw
                    first | (go_simp; done) | (go_simp; intro h0; omega) | rfl
                  try simp only [Act.put, List.getElem_toArray, List.getElem_cons_succ, List.getElem_cons_zero, List.setIfInBounds_toArray, List.set_cons_zero, List.set_cons_succ]
                  refine wpAnyH_take (i := 3) (v := .int .i64 (i2 : Int)) rfl (by kernel_rfl) (by kernel_rfl) (by kernel_rfl) (fun _ _ _ h => h) (Or.inl ⟨by rfl, ?_⟩) (by assumption) ?_
                  · intro w' hSw
                    first | (go_simp; done) | (go_simp; intro h0; omega) | rfl
                  try simp only [Act.put, List.getElem_toArray, List.getElem_cons_succ, List.getElem_cons_zero, List.setIfInBounds_toArray, List.set_cons_zero, List.set_cons_succ]
                  refine wpAnyH_take (i := 4) (v := .pointer (some ⟨b2, o2 + i2 * 3, none⟩)) rfl (by kernel_rfl) (by kernel_rfl) (by kernel_rfl) (fun _ _ _ h => h) (Or.inl ⟨by rfl, ?_⟩) (by assumption) ?_
                  · intro w' hSw
                    first | (go_simp; done) | (go_simp; intro h0; omega) | rfl
                  try simp only [Act.put, List.getElem_toArray, List.getElem_cons_succ, List.getElem_cons_zero, List.setIfInBounds_toArray, List.set_cons_zero, List.set_cons_succ]
                  refine wpAnyH_take (i := 5) (v := .agg #[.int .u8 5, .int .i64 (x0 : Int), .slice q0 0 d0]) rfl (by kernel_rfl) (by kernel_rfl) (by kernel_rfl) (fun _ _ _ h => h) (Or.inl ⟨by rfl, ?_⟩) (by assumption) ?_
                  · intro w' hSw
                    have hcs : ∀ i, w'.cell? ⟨b2, i, none⟩ = wr.cell? ⟨b2, i, none⟩ := fun i => cell_same ((hSw b2 (by have := HBS.out; omega) HBR.out).trans HB4.out)
                    have y0 := (hcs (o2 + i2 * 3)).trans HE.out.1
                    have y1 := (hcs (o2 + i2 * 3 + 1)).trans HE.out.2.1
                    have y2 := (hcs (o2 + i2 * 3 + 2)).trans HE.out.2.2
                    clear hcs
                    first | (go_simp; done) | (go_simp; intro h0; omega) | rfl
                  try simp only [Act.put, List.getElem_toArray, List.getElem_cons_succ, List.getElem_cons_zero, List.setIfInBounds_toArray, List.set_cons_zero, List.set_cons_succ]
                  refine wpAnyH_take (i := 6) (v := .agg #[.int .u8 5, .int .i64 (xj : Int), .slice qj 0 dj, .int .u8 5, .int .i64 (x0 : Int), .slice q0 0 d0]) rfl (by kernel_rfl) (by kernel_rfl) (by kernel_rfl) (fun _ _ _ h => h) (Or.inl ⟨by rfl, ?_⟩) (by assumption) ?_
                  · intro w' hSw
                    first | (go_simp; done) | (go_simp; intro h0; omega) | rfl
                  try simp only [Act.put, List.getElem_toArray, List.getElem_cons_succ, List.getElem_cons_zero, List.setIfInBounds_toArray, List.set_cons_zero, List.set_cons_succ]
                  refine wpAnyH_ready (rs := [7]) (by kernel_rfl) (by simp) ?_
                  refine AllReadyH.cons rfl (fun K hK => ?_) AllReadyH.nil
                  have HK2 := Lib.hid hK
                  clear hK
                  try rw [if_pos (by rfl)]
                  go_simp
                  refine HK2.out _ _ (fun i hi hv => (al_new (W := w8) (.cells #[.int .u8 5, .int .i64 (xj : Int), .slice qj 0 dj, .int .u8 5, .int .i64 (x0 : Int), .slice q0 0 d0] 82)).block i (by rw [HZ4.out]; exact hi)) (fun hHeld => ?_)
                  clear HK2
                  try simp only [Act.put, List.getElem_toArray, List.getElem_cons_succ, List.getElem_cons_zero, List.setIfInBounds_toArray, List.set_cons_zero, List.set_cons_succ]
                  clear K
                  have hb5 : Below w8.heap.size w8 (w8.alloc (.cells #[.int .u8 5, .int .i64 (xj : Int), .slice qj 0 dj, .int .u8 5, .int .i64 (x0 : Int), .slice q0 0 d0] 82)).drew := ((Below.refl _ _).alloc (Nat.le_refl _) _).drew
                  have HN5 := Lib.hid (show ∀ j u, (pcells xj x0 qj q0 dj d0)[j]? = some u → ((w8.alloc (.cells #[.int .u8 5, .int .i64 (xj : Int), .slice qj 0 dj, .int .u8 5, .int .i64 (x0 : Int), .slice q0 0 d0] 82)).drew).cell? ((⟨w8.heap.size, 0, none⟩ : Addr).add j) = some u from fun j => new_pair (w := w8) rfl j)
                  have HO5 := Lib.hid (own_all HO4.out hb5); have HJ5 := Lib.hid (own_all HJ4.out hb5); have HS5 := Lib.hid (HS4.out.below hb5); have HK5 := Lib.hid (And.intro ((Kp.of_below (P := P3) hb5).kids HK4.out.1) ((Kp.of_below (P := P3) hb5).kids HK4.out.2))
                  have HZ45 := Lib.hid hb5.size; have HB5 := Lib.hid (fun i (hi : i < wr.heap.size + 1) => hb5.block i (by rw [HZ4.out]; exact hi))
                  have HZ5 := Lib.hid (Nat.le_trans HS4.out.kp.size hb5.size)
                  clear hb5
                  generalize hw5 : (w8.alloc (.cells #[.int .u8 5, .int .i64 (xj : Int), .slice qj 0 dj, .int .u8 5, .int .i64 (x0 : Int), .slice q0 0 d0] 82)).drew = w9 at *
                  clear hw5
                  refine wpAnyH_ready (rs := [8]) (by kernel_rfl) (by simp) ?_
                  refine AllReadyH.cons rfl (fun K hK => ?_) AllReadyH.nil
                  have HK2 := Lib.hid hK
                  clear hK
                  try rw [if_pos (by rfl)]
                  refine wp_append_own (.tmp 85) (.tmp 92) 80 w.heap.size 82 i0 _ 6 80 Tryd.underlying80 HI.out HZ0.out HZ1.out HZ2.out rfl (by decide) vr (m + i2) zs rfl HO5.out ⟨w8.heap.size, 0, none⟩ 1 1 (pcells xj x0 qj q0 dj d0) rfl rfl HN5.out (one_pair _ _ _ _ _ _) (by unfold maxLen; omega) (by omega) HZ5.out ?_
                  intro v' w10 hown hgr hat
                  have HO6 := Lib.hid hown; have HS6 := Lib.hid (HS5.out.growR hgr hat (fun b e => (own_row_lt hown e).1) (fun b e => (own_row_lt HJ5.out e).1)); have HK6 := Lib.hid (And.intro (seen_kids HK5.out.1 hgr (fun b e => (HS5.out.r b e).1) hat) (seen_kids HK5.out.2 hgr (fun b e => (HS5.out.r b e).1) hat)); have HJ6 := Lib.hid (own_grown HJ5.out hgr (fun b e => HS5.out.ne b e))
                  have HB6 := Lib.hid (fun i (hi : i < wr.heap.size + 1) (hv : vr.ownBlock ≠ some i) => (hgr.block i (by have := HZ45.out; have := HZ4.out; omega) (fun e => hv e.symm)).trans (HB5.out i hi))
                  clear hown hgr hat HO5 HS5 HK5 HJ5
                  refine HK2.out _ _ HB6.out (fun hHeld => ?_)
                  clear HK2
                  try simp only [Act.put, List.getElem_toArray, List.getElem_cons_succ, List.getElem_cons_zero, List.setIfInBounds_toArray, List.set_cons_zero, List.set_cons_succ]
                  clear K
                  refine wpAnyH_take (i := 9) (v := v') rfl (by kernel_rfl) (by kernel_rfl) (by kernel_rfl) (fun _ _ _ h => h) (Or.inl ⟨by rfl, ?_⟩) (by assumption) ?_
                  · intro w' hSw
                    first | (go_simp; done) | (go_simp; intro h0; omega) | rfl
                  try simp only [Act.put, List.getElem_toArray, List.getElem_cons_succ, List.getElem_cons_zero, List.setIfInBounds_toArray, List.set_cons_zero, List.set_cons_succ]
                  refine wpAnyH_done (by kernel_rfl) ?_ _
                  clear hHeld HB5 HB6 HO4 HS4 HK4 HJ4
                  go_wp2_with (fail)
                  go_roundw
                  case rel => exact ⟨i2 + 1, v', _, _, by omega, by go_num, rfl, HO6, Lib.hid (by rw [zip_take aa bb i2 HJV.out.1 HJV.out.2, ← HX.out.1, ← HX.out.2, ← List.append_assoc]; exact HF.out.snoc xj x0 qj q0 dj d0), HS6, HJ6, HK6⟩
                  case measure => simp [intOf]; omega
                · obtain rfl : i2 = aa.length := by omega
                  have hf := HF.out
                  rw [List.take_of_length_le (by rw [List.length_zip]; omega)] at hf
                  have hrn : m + aa.length = (r' ++ aa.zip bb).length := by rw [List.length_append, List.length_zip, ← HLEN.out, HMM.out]; omega
                  have HFF := Lib.hid hf; have HRN := Lib.hid hrn
                  have hjl : jl.length < 8000000000 := by have := HG.out; have := HBL.out; omega
                  clear hf hrn
                  obtain ⟨aj, cj, hvj, hcj, hnj⟩ := own_slice HJ.out
                  subst hvj
                  have hb8 : ∀ O, Below wr.heap.size wr (wr.alloc O) := fun O => al_new O
                  have hz8 : ∀ O, (wr.alloc O).heap.size = wr.heap.size + 1 := fun O => by simp
                  have HB8 := Lib.hid hb8; have HZ8 := Lib.hid hz8
                  have HSW := Lib.hid (HS.out.kp.size)
                  clear hb8 hz8 hcj hnj
                  go_upto_region 22 with (fail)
                  go_wp2_with (at_builtin; refine wpList_append_own_at _ rfl (.tmp 95) (.tmp 98) 31 rfl w.heap.size 3 i1 _ 1 8 Tryd.underlying31 JI.out JZ0.out JZ1.out JZ2.out rfl (by decide) (.slice aj jl.length cj) jl.length (ints (jl.map fun v => ((v : Nat) : Int))) rfl (own_all HJ.out (HB8.out _)) ⟨wr.heap.size, 0, none⟩ 2 2 [.int .i64 (nm x : Int), .int .i64 (nm y : Int)] rfl rfl (new_ints rfl) (one_ints _ _) (by unfold maxLen; omega) (by omega) (by rw [HZ8.out]; have := HSW.out; omega) ?_; intro v' w9 hown9 hgr9 _ hat9; have HO9 := Lib.hid hown9; have HG9 := Lib.hid hgr9; have HA9 := Lib.hid hat9; clear hown9 hgr9 hat9)
                  have HS9 := Lib.hid ((HS.out.below (HB8.out _)).growJ HG9.out HA9.out (fun b e => (own_row_lt HO9.out e).1) (fun b e => Nat.lt_of_lt_of_le (own_row_lt HO.out e).1 (HB8.out _).size))
                  have HR9 := Lib.hid (own_grown (own_all HO.out (HB8.out _)) HG9.out (fun b e e2 => HS.out.ne b e2 e))
                  have HGG := Lib.hid (show (r' ++ aa.zip bb).length + 2 * sS N7 (nmU nm lo hi) st' ≤ gk - 1 ∧ (jl ++ [nm x, nm y]).length + 2 * (gk - 1) ≤ 2 * (j + 4 * bud) by
                    have h1 := HG.out; have h2 := HRL.out; have h3 := HRN.out; have h4 := HS'.out; have h5 := HMM.out
                    rw [← h3, List.length_append]
                    show _ ∧ jl.length + 2 + _ ≤ _
                    omega)
                  have hgk : gk - 1 < gk := by have := HG.out; have := HRL.out; omega
                  go_roundg (gk - 1)
                  case measure => exact hgk
                  case rel => exact ⟨_, _, r' ++ aa.zip bb, zs, jl ++ [nm x, nm y], _, N7, E7, _, _, st', O', par', pos', rfl, rfl, Lib.hid (by rw [← HRN.out]; exact ⟨HR9.out, HFF.out⟩), Lib.hid (by rw [List.length_append, List.map_append]; exact (by unfold ints at *; rw [List.map_append]; exact HO9.out)), HS9, HM7, HGG⟩
end Types
end Go.Proofs.YtjchplgapaeagaaDoor
