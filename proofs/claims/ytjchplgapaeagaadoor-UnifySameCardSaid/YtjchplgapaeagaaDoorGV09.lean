/-A name is made to stand for a lower one. (Written by wip/tools/unone.py.) -/
import Derived.Test.YtjchplgapaeagaaDoorGV08
namespace Go.Proofs.YtjchplgapaeagaaDoor
open Go.RowKit
set_option linter.unusedVariables false
set_option linter.unusedSimpArgs false
namespace Types

theorem tyV_is (W : World) {v : Nat} (hv : v ≤ 1000000000) : TyIs W ⟨5, (v : Int)⟩ none 0 0 (tyV v) := ⟨rfl, rfl, ⟨by show (0 : Int) ≤ 5 ∧ (5 : Int) ≤ 255; omega, by show (-9223372036854775808 : Int) ≤ (v : Int) ∧ (v : Int) ≤ 9223372036854775807; omega⟩, ⟨Nat.zero_le _, Nat.zero_le _⟩, .nokids _⟩
/-- The book stays where a block of one's own is written. -/
theorem TBk.off {P : Nat → Bool} {w w' : World} {k : Bk} {u : Up} {n : Nat} {e : Nat → Option Ty} {g : Nat → Bool} {N : Nat} (h : TBk P w k u n e g) (hk : Kp (fun b => decide (b ≠ N)) w w') (hN : P N = false) (h1 : k.b ≠ N ∧ k.s ≠ N ∧ k.i ≠ N) (h2 : ∀ x, u = some x → x.1.b ≠ N ∧ x.1.s ≠ N) : TBk P w' k u n e g := by
  have hp : ∀ b, P b = true → (fun b => decide (b ≠ N)) b = true := fun b hb => decide_eq_true fun e => by subst e; rw [hN] at hb; cases hb
  refine ⟨h.me.keep hk hp (decide_eq_true h1.1) (decide_eq_true h1.2.1) (decide_eq_true h1.2.2), ?_⟩
  have hu := h.up
  unfold UpOk at hu ⊢
  split
  · trivial
  · rename_i x
    exact ⟨hu.1.keep hk hp (decide_eq_true (h2 x rfl).1) (decide_eq_true (h2 x rfl).2) (decide_eq_true (by rw [hu.2.1]; exact h1.2.2)), hu.2⟩
theorem gU_not {g : Nat → Bool} {lo hi : Nat} (h : g hi = false) : gU g lo hi = g := by funext v; unfold gU; rw [h]; simp
theorem gU_yes {g : Nat → Bool} {lo hi : Nat} (h : g hi = true) : gU g lo hi = upd g lo true := by
  funext v
  by_cases e : v = lo
  · subst e; rw [upd_same]; exact gU_lo h
  · rw [upd_other _ _ e]; unfold gU; rw [decide_eq_false e]; simp
theorem kids_may {f : Nat → Option Ty} (hm : ∀ v t, f v = some t → mayT t = true) (v : Nat) : (∀ s ∈ (tyO (f v)).ks, mayT s = true) ∧ (tyO (f v)).ks.length ≤ 2 := by
  cases hf : f v with
  | none => exact ⟨fun s hs => (by cases hs), Nat.zero_le _⟩
  | some t =>
    have h := hm v t hf
    refine ⟨fun s hs => may_mem h hs, ?_⟩
    show t.ks.length ≤ 2
    rcases (may_node h).1 with ⟨_, e⟩ | ⟨_, e⟩ | ⟨_, e⟩ <;> omega
/-- What it makes of a book: the kids that are to be the same, and the book. -/
def oneR (u : Up) (n : Nat) (e : Nat → Option Ty) (lo hi : Nat) : List Nat × List Nat × Nat × (Nat → Option Ty) × Bool :=
  if (tyO (cmb u e hi)).h.k = 0 then ([], [], n, upd e hi (some (tyV lo)), true)
  else if (tyO (cmb u e lo)).h.k = 0 then ([], [], n, upd (upd e hi (some (tyV lo))) lo (some (tyO (cmb u e hi))), true)
  else (opV n (tyO (cmb u e lo)).ks, opV (opN n (tyO (cmb u e lo)).ks) (tyO (cmb u e hi)).ks, opN (opN n (tyO (cmb u e lo)).ks) (tyO (cmb u e hi)).ks,
    opF (upd (opF (upd e hi (some (tyV lo))) n (tyO (cmb u e lo)).ks) lo (some (.node (tyO (cmb u e lo)).h ((opV n (tyO (cmb u e lo)).ks).map tyV)))) (opN n (tyO (cmb u e lo)).ks) (tyO (cmb u e hi)).ks,
    decide ((tyO (cmb u e lo)).h.k = (tyO (cmb u e hi)).h.k))
def OneEnd (P : Nat → Bool) (k : Bk) (u : Up) (n : Nat) (e : Nat → Option Ty) (g : Nat → Bool) (lo hi : Nat) (w : World) (en : Ending) (w' : World) : Prop :=
  ∃ (aa bb : List Nat) (n' : Nat) (e' : Nat → Option Ty) (can : Bool) (q1 q2 : Option Addr) (c1 c2 : Nat), oneR u n e lo hi = (aa, bb, n', e', can) ∧
    en = .returned (.tuple #[.slice q1 aa.length c1, .slice q2 bb.length c2, .bool can]) ∧ c1 ≤ maxLen ∧ c2 ≤ maxLen ∧
    Kids (veil P w') q1 (aa.map tyV) ∧ Kids (veil P w') q2 (bb.map tyV) ∧ TBk P w' k u n' e' (gU g lo hi) ∧ Kp (fun b => decide (b ≠ k.b ∧ b ≠ k.s ∧ b ≠ k.i)) w w'
theorem kq_s {k : Bk} {w w' : World} (h : Kp (fun b => decide (b ≠ k.s)) w w') : Kp (fun b => decide (b ≠ k.b ∧ b ≠ k.s ∧ b ≠ k.i)) w w' := h.mono fun b hb => decide_eq_true (of_decide_eq_true hb).2.1
theorem kq_i {k : Bk} {w w' : World} (h : Kp (fun b => decide (b ≠ k.i)) w w') : Kp (fun b => decide (b ≠ k.b ∧ b ≠ k.s ∧ b ≠ k.i)) w w' := h.mono fun b hb => decide_eq_true (of_decide_eq_true hb).2.2
theorem kq_o {k : Bk} {w w' : World} (h : Kp (fun b => decide (b ≠ k.b ∧ b ≠ k.s)) w w') : Kp (fun b => decide (b ≠ k.b ∧ b ≠ k.s ∧ b ≠ k.i)) w w' := h.mono fun b hb => decide_eq_true ⟨(of_decide_eq_true hb).1, (of_decide_eq_true hb).2.1⟩
theorem set1b {W : World} {N : Nat} {a b c x : Value} {ty : TypeId} (h : W.heap[N]? = some (.cells #[a, b, c] ty (0, 0))) : (W.setCell ⟨N, 2, none⟩ x).heap[N]? = some (.cells #[a, b, x] ty (0, 0)) := by
  simp [World.setCell, Array.getElem?_modify, h]
set_option maxRecDepth 100000 in
set_option maxHeartbeats 12800000 in
theorem one_walk (P : Nat → Bool) (k : Bk) (u : Up) (n : Nat) (e : Nat → Option Ty) (g : Nat → Bool) (lo hi : Nat) (w : World) (hT : TBk P w k u n e g) (hlh : lo < hi) (hhn : hi < n) (hn : n + 4 < 1000000000) (hm : ∀ v t, cmb u e v = some t → mayT t = true) (hP : ∀ b, w.heap.size ≤ b → P b = true) :
    Calls Tryd.prog 52 #[.pointer (some ⟨k.b, 0, none⟩), .int .i64 (lo : Int), .int .i64 (hi : Int)] w (OneEnd P k u n e g lo hi w) := by
  have hs1 := stand_walk P w k u n e g lo hT (keyOk_of (by omega))
  have hmlo := kids_may hm lo
  have hmhi := kids_may hm hi
  have HT := Lib.hid hT; have HS1 := Lib.hid hs1; have HLH := Lib.hid hlh; have HHN := Lib.hid hhn; have HN := Lib.hid hn; have HML := Lib.hid hmlo; have HMH := Lib.hid hmhi; have HP := Lib.hid hP; have HLOW := Lib.hid hT.all_low
  clear hT hs1 hlh hhn hn hmlo hmhi hP hm
  go_enter Tryd.func52, Tryd.ntmps52
  go_wp2_with (fail)
  refine HS1.out.mono ?_
  rintro en w1 ⟨h1, p1, l1, c1, rfl, hTy1, hb1⟩
  have hs2 := stand_walk P w1 k u n e g hi (HT.out.below hb1) (keyOk_of (by have := HHN.out; have := HN.out; omega))
  have HS2 := Lib.hid hs2; have HTY1 := Lib.hid hTy1; have HB1 := Lib.hid hb1
  clear hs2 hTy1 hb1 HS1
  go_wp2_with (fail)
  refine HS2.out.mono ?_
  rintro en w2 ⟨h2, p2, l2, c2, rfl, hTy2, hb2⟩
  obtain ⟨t, ht⟩ : ∃ t, t = tyO (cmb u e lo) := ⟨_, rfl⟩
  obtain ⟨s, hs⟩ : ∃ s, s = tyO (cmb u e hi) := ⟨_, rfl⟩
  have hty1 := HTY1.out
  rw [← ht] at hty1
  rw [← hs] at hTy2
  have hml := HML.out
  rw [← ht] at hml
  have hmh := HMH.out
  rw [← hs] at hmh
  have HML1 := Lib.hid hml; have HMH1 := Lib.hid hmh
  clear HML HMH hml hmh
  obtain ⟨P1, hP1⟩ : ∃ P1 : Nat → Bool, P1 = fun b => P b && decide (b ≠ w2.heap.size) && decide (b ≠ w2.heap.size + 1) := ⟨_, rfl⟩
  have hle : ∀ b, P1 b = true → P b = true := fun b hb => by
    rw [hP1] at hb
    have := Bool.and_eq_true_iff.1 hb
    exact (Bool.and_eq_true_iff.1 this.1).1
  have hge : ∀ b, b < w2.heap.size → P b = true → P1 b = true := fun b hb hp => by
    rw [hP1]
    show (P b && decide (b ≠ w2.heap.size) && decide (b ≠ w2.heap.size + 1)) = true
    rw [hp, decide_eq_true (show b ≠ w2.heap.size by omega), decide_eq_true (show b ≠ w2.heap.size + 1 by omega)]; rfl
  have h9 : P1 (w2.heap.size) = false := by rw [hP1]; simp
  have h10 : P1 (w2.heap.size + 1) = false := by rw [hP1]; simp
  have hww : w.heap.size ≤ w2.heap.size := Nat.le_trans HB1.out.size hb2.size
  have hnew : ∀ b, w2.heap.size + 2 ≤ b → P1 b = true := fun b hb => by
    rw [hP1]
    show (P b && decide (b ≠ w2.heap.size) && decide (b ≠ w2.heap.size + 1)) = true
    rw [HP.out b (by omega), decide_eq_true (show b ≠ w2.heap.size by omega), decide_eq_true (show b ≠ w2.heap.size + 1 by omega)]; rfl
  have hfalse : ∀ b, P b = false → P1 b = false := fun b hb => by
    cases h : P1 b with
    | false => rfl
    | true => rw [hle b h] at hb; cases hb
  have ba := al_new (W := w2) (.cells #[.int .u8 h1.k, .int .i64 h1.v, .slice p1 l1 c1] 25)
  have bb := al_new (W := w2.alloc (.cells #[.int .u8 h1.k, .int .i64 h1.v, .slice p1 l1 c1] 25)) (.cells #[.int .u8 h2.k, .int .i64 h2.v, .slice p2 l2 c2] 25)
  have z1 : (w2.alloc (.cells #[.int .u8 h1.k, .int .i64 h1.v, .slice p1 l1 c1] 25)).heap.size = w2.heap.size + 1 := by simp
  have x9 := heap_alloc_new w2 (.cells #[.int .u8 h1.k, .int .i64 h1.v, .slice p1 l1 c1] 25)
  have x10 := heap_alloc_new (w2.alloc (.cells #[.int .u8 h1.k, .int .i64 h1.v, .slice p1 l1 c1] 25)) (.cells #[.int .u8 h2.k, .int .i64 h2.v, .slice p2 l2 c2] 25)
  rw [z1] at x10 bb
  have X9 := Lib.hid ((bb.block _ (by omega)).trans x9); have X10 := Lib.hid x10
  have hT2 := (HT.out.below HB1.out).below hb2
  have hr2 : Reads (veil P w2) (veil P1 w2) := veil_to fun b hb hp => ⟨hge b hb hp, rfl⟩
  have hT3 := ((hT2.reP hr2 (hfalse _ HT.out.me.pb) (hfalse _ HT.out.me.ps) (hfalse _ HT.out.me.pi) fun x hx => ⟨hfalse _ (HT.out.upP x hx).1, hfalse _ (HT.out.upP x hx).2⟩).below ba).below (by rw [z1]; exact bb)
  have hkk : ∀ W, (∀ b, b < W.heap.size → w2.heap[b]? = W.heap[b]?) → W.heap.size ≤ w2.heap.size → Reads (veil P W) (veil P1 ((w2.alloc (.cells #[.int .u8 h1.k, .int .i64 h1.v, .slice p1 l1 c1] 25)).alloc (.cells #[.int .u8 h2.k, .int .i64 h2.v, .slice p2 l2 c2] 25))) := fun W hW hs => veil_to fun b hb hp => ⟨hge b (by omega) hp, (bb.block b (by omega)).trans ((ba.block b (by omega)).trans (hW b hb))⟩
  have HTY := Lib.hid (hty1.reads' (hkk w (fun b hb => (hb2.block b (Nat.lt_of_lt_of_le hb HB1.out.size)).trans (HB1.out.block b hb)) hww)); have HOY := Lib.hid (hTy2.reads' (hkk w1 (fun b hb => hb2.block b hb) hb2.size))
  have HT3 := Lib.hid hT3; have HK3 := Lib.hid ((((Kp.of_below (P := fun b => decide (b ≠ k.b ∧ b ≠ k.s ∧ b ≠ k.i)) HB1.out).trans (Kp.of_below hb2)).alloc (.cells #[.int .u8 h1.k, .int .i64 h1.v, .slice p1 l1 c1] 25)).alloc (.cells #[.int .u8 h2.k, .int .i64 h2.v, .slice p2 l2 c2] 25))
  have H9 := Lib.hid h9; have H10 := Lib.hid h10; have HLE := Lib.hid hle; have HNEW := Lib.hid hnew; have HWW := Lib.hid hww; have HTE := Lib.hid ht; have HSE := Lib.hid hs
  have HDS := Lib.hid (show k.b < w2.heap.size ∧ k.s < w2.heap.size ∧ k.i < w2.heap.size from ⟨Nat.lt_of_lt_of_le HLOW.out.1.1 hww, Nat.lt_of_lt_of_le HLOW.out.1.2.1 hww, Nat.lt_of_lt_of_le HLOW.out.1.2.2 hww⟩)
  have HD2 := Lib.hid (show ∀ x, u = some x → x.1.b < w2.heap.size ∧ x.1.s < w2.heap.size from fun x hx => ⟨Nat.lt_of_lt_of_le (HLOW.out.2 x hx).1 hww, Nat.lt_of_lt_of_le (HLOW.out.2 x hx).2 hww⟩)
  clear hty1 hTy2 hP1 hle hge h9 h10 hww hnew hfalse ba bb x9 x10 hT2 hr2 hT3 hkk HTY1 HS2 HB1 hb2 ht hs
  go_upto_region 2 with (fail)
  have hz3 : ((w2.alloc (.cells #[.int .u8 h1.k, .int .i64 h1.v, .slice p1 l1 c1] 25)).alloc (.cells #[.int .u8 h2.k, .int .i64 h2.v, .slice p2 l2 c2] 25)).heap.size = w2.heap.size + 2 := by simp
  have HZ3 := Lib.hid hz3
  clear hz3 z1
  generalize hw3 : (w2.alloc (.cells #[.int .u8 h1.k, .int .i64 h1.v, .slice p1 l1 c1] 25)).alloc (.cells #[.int .u8 h2.k, .int .i64 h2.v, .slice p2 l2 c2] 25) = w3 at *
  clear hw3
  refine wp_region_held_drew (S := fun V => ∀ b, b < w2.heap.size + 2 → b ≠ k.s → V.heap[b]? = w3.heap[b]?) (by kernel_rfl) (fun _ _ _ => rfl) (fun hHeld => ?_)
  refine wpAnyH_take (i := 0) (v := .pointer (some ⟨k.b, 0, none⟩)) rfl (by kernel_rfl) (by kernel_rfl) (by kernel_rfl) (fun _ _ _ h => h) (Or.inl ⟨by rfl, ?_⟩) (by assumption) ?_
  · intro w' hSw
    first | (go_simp; done) | rfl
  try simp only [Act.put, List.getElem_toArray, List.getElem_cons_succ, List.getElem_cons_zero, List.setIfInBounds_toArray, List.set_cons_zero, List.set_cons_succ]
  refine wpAnyH_take (i := 1) (v := .pointer (some ⟨k.b, 0, none⟩)) rfl (by kernel_rfl) (by kernel_rfl) (by kernel_rfl) (fun _ _ _ h => h) (Or.inl ⟨by rfl, ?_⟩) (by assumption) ?_
  · intro w' hSw
    first | (go_simp; done) | rfl
  try simp only [Act.put, List.getElem_toArray, List.getElem_cons_succ, List.getElem_cons_zero, List.setIfInBounds_toArray, List.set_cons_zero, List.set_cons_succ]
  refine wpAnyH_take (i := 2) (v := .pointer (some ⟨k.b, 2, none⟩)) rfl (by kernel_rfl) (by kernel_rfl) (by kernel_rfl) (fun _ _ _ h => h) (Or.inl ⟨by rfl, ?_⟩) (by assumption) ?_
  · intro w' hSw
    first | (go_simp; done) | rfl
  try simp only [Act.put, List.getElem_toArray, List.getElem_cons_succ, List.getElem_cons_zero, List.setIfInBounds_toArray, List.set_cons_zero, List.set_cons_succ]
  refine wpAnyH_take (i := 3) (v := .map (some k.s)) rfl (by kernel_rfl) (by kernel_rfl) (by kernel_rfl) (fun _ _ _ h => h) (Or.inl ⟨by rfl, ?_⟩) (by assumption) ?_
  · intro w' hSw
    obtain ⟨d0, d1, d2, d3, dl⟩ := bkc ((hSw k.b (by have := HDS.out.1; omega) HT3.out.me.bs).trans HT3.out.me.box)
    first | (go_simp; done) | rfl
  try simp only [Act.put, List.getElem_toArray, List.getElem_cons_succ, List.getElem_cons_zero, List.setIfInBounds_toArray, List.set_cons_zero, List.set_cons_succ]
  refine wpAnyH_take (i := 4) (v := .int .i64 (hi : Int)) rfl (by kernel_rfl) (by kernel_rfl) (by kernel_rfl) (fun _ _ _ h => h) (Or.inl ⟨by rfl, ?_⟩) (by assumption) ?_
  · intro w' hSw
    first | (go_simp; done) | rfl
  try simp only [Act.put, List.getElem_toArray, List.getElem_cons_succ, List.getElem_cons_zero, List.setIfInBounds_toArray, List.set_cons_zero, List.set_cons_succ]
  refine wpAnyH_take (i := 5) (v := .int .i64 (lo : Int)) rfl (by kernel_rfl) (by kernel_rfl) (by kernel_rfl) (fun _ _ _ h => h) (Or.inl ⟨by rfl, ?_⟩) (by assumption) ?_
  · intro w' hSw
    first | (go_simp; done) | rfl
  try simp only [Act.put, List.getElem_toArray, List.getElem_cons_succ, List.getElem_cons_zero, List.setIfInBounds_toArray, List.set_cons_zero, List.set_cons_succ]
  refine wpAnyH_ready (rs := [6]) (by kernel_rfl) (by simp) ?_
  refine AllReadyH.cons rfl (fun K hK => ?_) AllReadyH.nil
  have HK2 := Lib.hid hK
  clear hK
  try rw [if_pos (by rfl)]
  go_simp
  refine (variable_walk (lo : Int) _).mono ?_
  rintro en w4 ⟨rfl, hb4⟩
  have hb4' : Below w3.heap.size w3 w4 := ⟨hb4.os, hb4.tape, hb4.output, hb4.size, hb4.block⟩
  have HT4 := Lib.hid (HT3.out.below hb4'); have HK4 := Lib.hid (HK3.out.trans (Kp.of_below hb4')); have X94 := Lib.hid ((hb4'.block _ (lt_of_block X9.out)).trans X9.out); have X104 := Lib.hid ((hb4'.block _ (lt_of_block X10.out)).trans X10.out)
  have HTY4 := Lib.hid ((Kp.of_below (P := P1) hb4').ty HTY.out); have HOY4 := Lib.hid ((Kp.of_below (P := P1) hb4').ty HOY.out); have HZ4 := Lib.hid (show w2.heap.size + 2 ≤ w4.heap.size by have := hb4'.size; have := HZ3.out; omega)
  have HS4 := Lib.hid (fun b (hb : b < w2.heap.size + 2) (_ : b ≠ k.s) => hb4'.block b (by have := HZ3.out; omega))
  clear hb4 hb4' HT3 HK3 X9 X10 HTY HOY
  refine HK2.out _ _ HS4.out (fun hHeld => ?_)
  clear HK2
  try simp only [Act.put, List.getElem_toArray, List.getElem_cons_succ, List.getElem_cons_zero, List.setIfInBounds_toArray, List.set_cons_zero, List.set_cons_succ]
  clear K
  refine wpAnyH_ready (rs := [7]) (by kernel_rfl) (by simp) ?_
  refine AllReadyH.cons rfl (fun K hK => ?_) AllReadyH.nil
  have HK2 := Lib.hid hK
  clear hK
  try rw [if_pos (by rfl)]
  obtain ⟨F, hM, hF⟩ := HT4.out.me.st
  have hFn : ∀ i, KeyOk i → F i ≠ none → i < n + 1 := fun i _ hi => by
    rcases hF i with ⟨_, b⟩ | ⟨z, _, _, _, _, a, _⟩
    · exact absurd b hi
    · have := HT4.out.me.lt i z a; omega
  refine wp_store 56 25 Tryd.underlying56 k.s (n + 1) hi F (.agg #[.int .u8 5, .int .i64 (lo : Int), .slice none 0 0]) rfl rfl rfl (hM.of_block rfl) hFn (by have := HT4.out.me.few; unfold maxLen; omega) (keyOk_of (by have := HHN.out; have := HN.out; have := HLH.out; omega)) (fun w5 hm hg hs => ?_)
  replace hg : w4.grownBy w5 (some k.s) := ⟨hg.os, hg.tape, hg.output, hg.size, hg.block⟩
  replace hs : w5.heap.size = w4.heap.size := hs
  have hoff : ∀ b, b ≠ k.s → w5.heap[b]? = w4.heap[b]? := fun b hb => store_off hg hs hb
  have hkp : Kp (fun b => decide (b ≠ k.s)) w4 w5 := ⟨hg.os, hg.tape, hg.output, Nat.le_of_eq hs.symm, fun b hb hp => hoff b (of_decide_eq_true hp)⟩
  have hput := HT4.out.put hkp (StAt.put hF (tyV_is _ (by have := HHN.out; have := HN.out; have := HLH.out; omega)) hm (veil_kp HT4.out.me.ps hkp).reads) (fun v z hvt => by
    by_cases e : v = hi
    · have := HHN.out; have := HN.out; have := HLH.out; omega
    · rw [upd_other _ _ e] at hvt; exact HT4.out.me.lt v z hvt)
  have hkP := veil_kp HT4.out.me.ps hkp
  have HS5 := Lib.hid (fun b (hb : b < w2.heap.size + 2) (h : b ≠ k.s) => (hoff b h).trans (HS4.out b hb h))
  have HT5 := Lib.hid hput; have HK5 := Lib.hid (HK4.out.trans (kq_s hkp)); have X95 := Lib.hid ((hkp.block _ (lt_of_block X94.out) (ne_true (by have := HDS.out; omega))).trans X94.out); have X105 := Lib.hid ((hkp.block _ (lt_of_block X104.out) (ne_true (by have := HDS.out; omega))).trans X104.out)
  have HTY5 := Lib.hid (hkP.ty HTY4.out); have HOY5 := Lib.hid (hkP.ty HOY4.out); have HZ5 := Lib.hid (show w2.heap.size + 2 ≤ w5.heap.size by have := hkp.size; have := HZ4.out; omega)
  clear hM hF hFn hm hg hs hoff hkp hput hkP HT4 HK4 X94 X104 HTY4 HOY4 HS4
  refine HK2.out _ _ HS5.out (fun hHeld => ?_)
  clear HK2
  try simp only [Act.put, List.getElem_toArray, List.getElem_cons_succ, List.getElem_cons_zero, List.setIfInBounds_toArray, List.set_cons_zero, List.set_cons_succ]
  clear K
  refine wpAnyH_done (by kernel_rfl) ?_ _
  clear hHeld HS5
  obtain ⟨d0, d1, d2, d3, dl⟩ := bkc HT5.out.me.box
  obtain ⟨G, hG, hGi⟩ := HT5.out.me.inn
  have hlk := hG.look Tryd.underlying57 (zeroBool _) (i := hi) (keyOk_of (by have := HHN.out; have := HN.out; have := HLH.out; omega))
  have hgv : ((G hi).getD (.bool false)) = .bool (g hi) := by rcases hGi hi with ⟨a, b⟩ | ⟨a, b⟩ <;> rw [a, b] <;> rfl
  rw [hgv] at hlk
  clear hG hGi hgv
  cases hgh : g hi with
  | false =>
    rw [hgh] at hlk
    have HGE := Lib.hid (gU_not (lo := lo) hgh)
    have hT5g := HT5.out
    rw [← HGE.out] at hT5g
    have HT5g := Lib.hid hT5g
    clear hgh hT5g HT5
    go_upto_region 5 with (fail)
    clear hlk d0 d1 d2 d3 dl
    obtain ⟨⟨g0, g1, g2⟩, gf, gl⟩ := c3 X105.out
    by_cases hk2 : h2.k = 0
    · have hq : (h2.k == 0) = true := by rw [hk2]; rfl
      have HFIN := Lib.hid (show OneEnd P k u n e g lo hi w (.returned (.tuple #[.slice none 0 0, .slice none 0 0, .bool true])) w5 from ⟨[], [], n, _, true, none, none, 0, 0, by unfold oneR; rw [if_pos (by rw [← HSE.out, HOY5.out.head]; exact hk2)], rfl, Nat.zero_le _, Nat.zero_le _, .nokids _, .nokids _, (HT5g.out.reP (veil_to fun b hb hp => ⟨HLE.out b hp, rfl⟩) HT.out.me.pb HT.out.me.ps HT.out.me.pi HT.out.upP), HK5.out⟩)
      clear hk2
      go_wp2_with (fail)
      exact bodyPost_ret (by simp [results, Tryd.results52, go_sem]) rfl HFIN.out
    have hq : (h2.k == 0) = false := beq_eq_false_iff_ne.2 hk2
    have hn2 : ¬ (tyO (cmb u e hi)).h.k = 0 := by rw [← HSE.out, HOY5.out.head]; exact hk2
    have HN2 := Lib.hid hn2
    clear hk2 hn2
    obtain ⟨⟨e0, e1, e2⟩, ef, el⟩ := c3 X95.out
    by_cases hk1 : h1.k = 0
    · have hq1 : (h1.k == 0) = true := by rw [hk1]; rfl
      have HZK := Lib.hid (show (tyO (cmb u e lo)).h.k = 0 from by rw [← HTE.out, HTY5.out.head]; exact hk1)
      clear hk1
      go_upto_region 8 with (fail)
      clear hq hq1 g0 g1 g2 gf gl e0 e1 e2 ef el
      refine wp_region_held_drew (S := fun V => ∀ b, b < w2.heap.size + 2 → b ≠ k.s → V.heap[b]? = w5.heap[b]?) (by kernel_rfl) (fun _ _ _ => rfl) (fun hHeld => ?_)
      refine wpAnyH_take (i := 0) (v := .pointer (some ⟨k.b, 0, none⟩)) rfl (by kernel_rfl) (by kernel_rfl) (by kernel_rfl) (fun _ _ _ h => h) (Or.inl ⟨by rfl, ?_⟩) (by assumption) ?_
      · intro w' hSw
        first | (go_simp; done) | rfl
      try simp only [Act.put, List.getElem_toArray, List.getElem_cons_succ, List.getElem_cons_zero, List.setIfInBounds_toArray, List.set_cons_zero, List.set_cons_succ]
      refine wpAnyH_take (i := 1) (v := .pointer (some ⟨k.b, 0, none⟩)) rfl (by kernel_rfl) (by kernel_rfl) (by kernel_rfl) (fun _ _ _ h => h) (Or.inl ⟨by rfl, ?_⟩) (by assumption) ?_
      · intro w' hSw
        first | (go_simp; done) | rfl
      try simp only [Act.put, List.getElem_toArray, List.getElem_cons_succ, List.getElem_cons_zero, List.setIfInBounds_toArray, List.set_cons_zero, List.set_cons_succ]
      refine wpAnyH_take (i := 2) (v := .pointer (some ⟨k.b, 2, none⟩)) rfl (by kernel_rfl) (by kernel_rfl) (by kernel_rfl) (fun _ _ _ h => h) (Or.inl ⟨by rfl, ?_⟩) (by assumption) ?_
      · intro w' hSw
        first | (go_simp; done) | rfl
      try simp only [Act.put, List.getElem_toArray, List.getElem_cons_succ, List.getElem_cons_zero, List.setIfInBounds_toArray, List.set_cons_zero, List.set_cons_succ]
      refine wpAnyH_take (i := 3) (v := .map (some k.s)) rfl (by kernel_rfl) (by kernel_rfl) (by kernel_rfl) (fun _ _ _ h => h) (Or.inl ⟨by rfl, ?_⟩) (by assumption) ?_
      · intro w' hSw
        obtain ⟨d0, d1, d2, d3, dl⟩ := bkc ((hSw k.b (by have := HDS.out.1; omega) HT5g.out.me.bs).trans HT5g.out.me.box)
        first | (go_simp; done) | rfl
      try simp only [Act.put, List.getElem_toArray, List.getElem_cons_succ, List.getElem_cons_zero, List.setIfInBounds_toArray, List.set_cons_zero, List.set_cons_succ]
      refine wpAnyH_take (i := 4) (v := .int .i64 (lo : Int)) rfl (by kernel_rfl) (by kernel_rfl) (by kernel_rfl) (fun _ _ _ h => h) (Or.inl ⟨by rfl, ?_⟩) (by assumption) ?_
      · intro w' hSw
        first | (go_simp; done) | rfl
      try simp only [Act.put, List.getElem_toArray, List.getElem_cons_succ, List.getElem_cons_zero, List.setIfInBounds_toArray, List.set_cons_zero, List.set_cons_succ]
      refine wpAnyH_take (i := 5) (v := .agg #[.int .u8 h2.k, .int .i64 h2.v, .slice p2 l2 c2]) rfl (by kernel_rfl) (by kernel_rfl) (by kernel_rfl) (fun _ _ _ h => h) (Or.inl ⟨by rfl, ?_⟩) (by assumption) ?_
      · intro w' hSw
        obtain ⟨⟨d0, d1, d2⟩, -, dl⟩ := c3 ((hSw (w2.heap.size + 1) (by omega) (by have := HDS.out.2.1; omega)).trans X105.out)
        first | (go_simp; done) | rfl
      try simp only [Act.put, List.getElem_toArray, List.getElem_cons_succ, List.getElem_cons_zero, List.setIfInBounds_toArray, List.set_cons_zero, List.set_cons_succ]
      refine wpAnyH_ready (rs := [6]) (by kernel_rfl) (by simp) ?_
      refine AllReadyH.cons rfl (fun K hK => ?_) AllReadyH.nil
      have HK2 := Lib.hid hK
      clear hK
      try rw [if_pos (by rfl)]
      obtain ⟨F, hM, hF⟩ := HT5g.out.me.st
      have hFn : ∀ i, KeyOk i → F i ≠ none → i < n + 1 := fun i _ hi => by
        rcases hF i with ⟨_, b⟩ | ⟨z, _, _, _, _, a, _⟩
        · exact absurd b hi
        · have := HT5g.out.me.lt i z a; omega
      refine wp_store 56 25 Tryd.underlying56 k.s (n + 1) lo F (.agg #[.int .u8 h2.k, .int .i64 h2.v, .slice p2 l2 c2]) rfl rfl rfl (hM.of_block rfl) hFn (by have := HT5g.out.me.few; unfold maxLen; omega) (keyOk_of (by have := HHN.out; have := HN.out; have := HLH.out; omega)) (fun w6 hm hg hs => ?_)
      replace hg : w5.grownBy w6 (some k.s) := ⟨hg.os, hg.tape, hg.output, hg.size, hg.block⟩
      replace hs : w6.heap.size = w5.heap.size := hs
      have hoff : ∀ b, b ≠ k.s → w6.heap[b]? = w5.heap[b]? := fun b hb => store_off hg hs hb
      have hkp : Kp (fun b => decide (b ≠ k.s)) w5 w6 := ⟨hg.os, hg.tape, hg.output, Nat.le_of_eq hs.symm, fun b hb hp => hoff b (of_decide_eq_true hp)⟩
      have hput := HT5g.out.put hkp (StAt.put hF (HOY5.out) hm (veil_kp HT5g.out.me.ps hkp).reads) (fun v z hvt => by
        by_cases e : v = lo
        · have := HHN.out; have := HN.out; have := HLH.out; omega
        · rw [upd_other _ _ e] at hvt; exact HT5g.out.me.lt v z hvt)
      have hkP := veil_kp HT5g.out.me.ps hkp
      have HS6 := Lib.hid (fun b (hb : b < w2.heap.size + 2) (h : b ≠ k.s) => hoff b h)
      have HT6 := Lib.hid hput; have HK6 := Lib.hid (HK5.out.trans (kq_s hkp)); have X96 := Lib.hid ((hkp.block _ (lt_of_block X95.out) (ne_true (by have := HDS.out; omega))).trans X95.out); have X106 := Lib.hid ((hkp.block _ (lt_of_block X105.out) (ne_true (by have := HDS.out; omega))).trans X105.out)
      have HTY6 := Lib.hid (hkP.ty HTY5.out); have HOY6 := Lib.hid (hkP.ty HOY5.out); have HZ6 := Lib.hid (show w2.heap.size + 2 ≤ w6.heap.size by have := hkp.size; have := HZ5.out; omega)
      clear hM hF hFn hm hg hs hoff hkp hput hkP
      clear HK5 X95 X105 HTY5 HOY5
      refine HK2.out _ _ HS6.out (fun hHeld => ?_)
      clear HK2
      try simp only [Act.put, List.getElem_toArray, List.getElem_cons_succ, List.getElem_cons_zero, List.setIfInBounds_toArray, List.set_cons_zero, List.set_cons_succ]
      clear K
      refine wpAnyH_done (by kernel_rfl) ?_ _
      clear hHeld HS6
      have HFIN := Lib.hid (show OneEnd P k u n e g lo hi w (.returned (.tuple #[.slice none 0 0, .slice none 0 0, .bool true])) w6 from ⟨[], [], n, _, true, none, none, 0, 0, by unfold oneR; rw [if_neg HN2.out, if_pos HZK.out, ← HSE.out], rfl, Nat.zero_le _, Nat.zero_le _, .nokids _, .nokids _, (HT6.out.reP (veil_to fun b hb hp => ⟨HLE.out b hp, rfl⟩) HT.out.me.pb HT.out.me.ps HT.out.me.pi HT.out.upP), HK6.out⟩)
      go_wp2_with (fail)
      exact bodyPost_ret (by simp [results, Tryd.results52, go_sem]) rfl HFIN.out
    have hq1 : (h1.k == 0) = false := beq_eq_false_iff_ne.2 hk1
    have HN1 := Lib.hid (show ¬ (tyO (cmb u e lo)).h.k = 0 from by rw [← HTE.out, HTY5.out.head]; exact hk1)
    clear hk1
    have how := opened_walk P1 k u n _ _ t.ks p1 l1 c1 w5 HT5g.out HTY5.out.kids HTY5.out.len HML1.out.1 (by have := HTY5.out.len; have := HML1.out.2; have := HN.out; omega) (fun b hb => HNEW.out b (by have := HZ5.out; omega))
    have HOW := Lib.hid how
    clear how
    go_wp2_with (fail)
    refine HOW.out.mono ?_
    rintro en w6 ⟨q1, cc1, rfl, hc1, hc2, hkd, hTb, hkp⟩
    clear g0 g1 g2 gf gl e0 e1 e2 ef el hq hq1 HOW
    have hkP := kp_P HT5g.out.me.pb HT5g.out.me.ps hkp
    have HT6 := Lib.hid hTb; have HK6 := Lib.hid (HK5.out.trans (kq_o hkp)); have X96 := Lib.hid ((hkp.block _ (lt_of_block X95.out) (decide_eq_true ⟨by have := HDS.out; omega, by have := HDS.out; omega⟩)).trans X95.out); have X106 := Lib.hid ((hkp.block _ (lt_of_block X105.out) (decide_eq_true ⟨by have := HDS.out; omega, by have := HDS.out; omega⟩)).trans X105.out)
    have HTY6 := Lib.hid (hkP.ty HTY5.out); have HOY6 := Lib.hid (hkP.ty HOY5.out); have HZ6 := Lib.hid (show w2.heap.size + 2 ≤ w6.heap.size by have := hkp.size; have := HZ5.out; omega)
    clear hkp hkP hTb
    clear HK5 X95 X105 HTY5 HOY5
    have HKD6 := Lib.hid hkd; have HC1 := Lib.hid (And.intro hc1 hc2)
    clear hkd hc1 hc2
    obtain ⟨⟨e0, e1, e2⟩, ⟨ef0, ef1, ef2⟩, el⟩ := c3 X96.out
    go_upto_region 11 with (fail)
    clear e0 e1 e2 ef0 ef1 ef2 el
    have hx9 := set1b (x := .slice q1 t.ks.length cc1) X96.out
    have hkp : Kp (fun b => decide (b ≠ w2.heap.size)) w6 (w6.setCell ⟨w2.heap.size, 2, none⟩ (.slice q1 t.ks.length cc1)) := (Kp.refl _ _).set (by simp) 2 _
    have hkP : Kp P1 w6 (w6.setCell ⟨w2.heap.size, 2, none⟩ (.slice q1 t.ks.length cc1)) := (Kp.refl _ _).set H9.out 2 _
    have hlw : Below w.heap.size w6 (w6.setCell ⟨w2.heap.size, 2, none⟩ (.slice q1 t.ks.length cc1)) := (Below.refl _ _).setCell (p := ⟨w2.heap.size, 2, none⟩) HWW.out _
    generalize w6.setCell ⟨w2.heap.size, 2, none⟩ (.slice q1 t.ks.length cc1) = w7 at *
    have HT7 := Lib.hid (HT6.out.off hkp H9.out (by have := HDS.out; omega) (fun x hx => by have := HD2.out x hx; omega)); have HK7 := Lib.hid (HK6.out.low hlw); have X97 := Lib.hid hx9; have X107 := Lib.hid ((hkp.block _ (lt_of_block X106.out) (ne_true (by omega))).trans X106.out)
    have HTY7 := Lib.hid (hkP.ty HTY6.out); have HOY7 := Lib.hid (hkP.ty HOY6.out); have HZ7 := Lib.hid (show w2.heap.size + 2 ≤ w7.heap.size by have := hkp.size; have := HZ6.out; omega); have HKD7 := Lib.hid (hkP.kids HKD6.out)
    clear hx9 hkp hkP hlw
    clear HT6 HK6 X96 X106 HTY6 HOY6
    refine wp_region_held_drew (S := fun V => ∀ b, b < w2.heap.size + 2 → b ≠ k.s → V.heap[b]? = w7.heap[b]?) (by kernel_rfl) (fun _ _ _ => rfl) (fun hHeld => ?_)
    refine wpAnyH_take (i := 0) (v := .pointer (some ⟨k.b, 0, none⟩)) rfl (by kernel_rfl) (by kernel_rfl) (by kernel_rfl) (fun _ _ _ h => h) (Or.inl ⟨by rfl, ?_⟩) (by assumption) ?_
    · intro w' hSw
      first | (go_simp; done) | rfl
    try simp only [Act.put, List.getElem_toArray, List.getElem_cons_succ, List.getElem_cons_zero, List.setIfInBounds_toArray, List.set_cons_zero, List.set_cons_succ]
    refine wpAnyH_take (i := 1) (v := .pointer (some ⟨k.b, 0, none⟩)) rfl (by kernel_rfl) (by kernel_rfl) (by kernel_rfl) (fun _ _ _ h => h) (Or.inl ⟨by rfl, ?_⟩) (by assumption) ?_
    · intro w' hSw
      first | (go_simp; done) | rfl
    try simp only [Act.put, List.getElem_toArray, List.getElem_cons_succ, List.getElem_cons_zero, List.setIfInBounds_toArray, List.set_cons_zero, List.set_cons_succ]
    refine wpAnyH_take (i := 2) (v := .pointer (some ⟨k.b, 2, none⟩)) rfl (by kernel_rfl) (by kernel_rfl) (by kernel_rfl) (fun _ _ _ h => h) (Or.inl ⟨by rfl, ?_⟩) (by assumption) ?_
    · intro w' hSw
      first | (go_simp; done) | rfl
    try simp only [Act.put, List.getElem_toArray, List.getElem_cons_succ, List.getElem_cons_zero, List.setIfInBounds_toArray, List.set_cons_zero, List.set_cons_succ]
    refine wpAnyH_take (i := 3) (v := .map (some k.s)) rfl (by kernel_rfl) (by kernel_rfl) (by kernel_rfl) (fun _ _ _ h => h) (Or.inl ⟨by rfl, ?_⟩) (by assumption) ?_
    · intro w' hSw
      obtain ⟨d0, d1, d2, d3, dl⟩ := bkc ((hSw k.b (by have := HDS.out.1; omega) HT7.out.me.bs).trans HT7.out.me.box)
      first | (go_simp; done) | rfl
    try simp only [Act.put, List.getElem_toArray, List.getElem_cons_succ, List.getElem_cons_zero, List.setIfInBounds_toArray, List.set_cons_zero, List.set_cons_succ]
    refine wpAnyH_take (i := 4) (v := .int .i64 (lo : Int)) rfl (by kernel_rfl) (by kernel_rfl) (by kernel_rfl) (fun _ _ _ h => h) (Or.inl ⟨by rfl, ?_⟩) (by assumption) ?_
    · intro w' hSw
      first | (go_simp; done) | rfl
    try simp only [Act.put, List.getElem_toArray, List.getElem_cons_succ, List.getElem_cons_zero, List.setIfInBounds_toArray, List.set_cons_zero, List.set_cons_succ]
    refine wpAnyH_take (i := 5) (v := .agg #[.int .u8 h1.k, .int .i64 h1.v, .slice q1 t.ks.length cc1]) rfl (by kernel_rfl) (by kernel_rfl) (by kernel_rfl) (fun _ _ _ h => h) (Or.inl ⟨by rfl, ?_⟩) (by assumption) ?_
    · intro w' hSw
      obtain ⟨⟨d0, d1, d2⟩, -, dl⟩ := c3 ((hSw (w2.heap.size) (by omega) (by have := HDS.out.2.1; omega)).trans X97.out)
      first | (go_simp; done) | rfl
    try simp only [Act.put, List.getElem_toArray, List.getElem_cons_succ, List.getElem_cons_zero, List.setIfInBounds_toArray, List.set_cons_zero, List.set_cons_succ]
    refine wpAnyH_ready (rs := [6]) (by kernel_rfl) (by simp) ?_
    refine AllReadyH.cons rfl (fun K hK => ?_) AllReadyH.nil
    have HK2 := Lib.hid hK
    clear hK
    try rw [if_pos (by rfl)]
    have hnt : TyIs (veil P1 w7) h1 q1 t.ks.length cc1 (.node h1 ((opV n t.ks).map tyV)) := ⟨rfl, by show ((opV n t.ks).map tyV).length = _; rw [List.length_map, opV_len], HTY7.out.ok, HC1.out, HKD7.out⟩
    obtain ⟨F, hM, hF⟩ := HT7.out.me.st
    have hFn : ∀ i, KeyOk i → F i ≠ none → i < opN n t.ks + 1 := fun i _ hi => by
      rcases hF i with ⟨_, b⟩ | ⟨z, _, _, _, _, a, _⟩
      · exact absurd b hi
      · have := HT7.out.me.lt i z a; omega
    refine wp_store 56 25 Tryd.underlying56 k.s (opN n t.ks + 1) lo F (.agg #[.int .u8 h1.k, .int .i64 h1.v, .slice q1 t.ks.length cc1]) rfl rfl rfl (hM.of_block rfl) hFn (by have := HT7.out.me.few; unfold maxLen; omega) (keyOk_of (by have := HHN.out; have := HN.out; have := HLH.out; have := opN_le t.ks n; omega)) (fun w8 hm hg hs => ?_)
    replace hg : w7.grownBy w8 (some k.s) := ⟨hg.os, hg.tape, hg.output, hg.size, hg.block⟩
    replace hs : w8.heap.size = w7.heap.size := hs
    have hoff : ∀ b, b ≠ k.s → w8.heap[b]? = w7.heap[b]? := fun b hb => store_off hg hs hb
    have hkp : Kp (fun b => decide (b ≠ k.s)) w7 w8 := ⟨hg.os, hg.tape, hg.output, Nat.le_of_eq hs.symm, fun b hb hp => hoff b (of_decide_eq_true hp)⟩
    have hput := HT7.out.put hkp (StAt.put hF (hnt) hm (veil_kp HT7.out.me.ps hkp).reads) (fun v z hvt => by
      by_cases e : v = lo
      · have := HHN.out; have := HN.out; have := HLH.out; have := opN_le t.ks n; omega
      · rw [upd_other _ _ e] at hvt; exact HT7.out.me.lt v z hvt)
    have hkP := veil_kp HT7.out.me.ps hkp
    have HKD8 := Lib.hid (hkP.kids HKD7.out)
    have HS8 := Lib.hid (fun b (hb : b < w2.heap.size + 2) (h : b ≠ k.s) => hoff b h)
    have HT8 := Lib.hid hput; have HK8 := Lib.hid (HK7.out.trans (kq_s hkp)); have X98 := Lib.hid ((hkp.block _ (lt_of_block X97.out) (ne_true (by have := HDS.out; omega))).trans X97.out); have X108 := Lib.hid ((hkp.block _ (lt_of_block X107.out) (ne_true (by have := HDS.out; omega))).trans X107.out)
    have HTY8 := Lib.hid (hkP.ty HTY7.out); have HOY8 := Lib.hid (hkP.ty HOY7.out); have HZ8 := Lib.hid (show w2.heap.size + 2 ≤ w8.heap.size by have := hkp.size; have := HZ7.out; omega)
    clear hM hF hFn hm hg hs hoff hkp hput hkP hnt
    clear HT7 HK7 X97 X107 HTY7 HOY7
    refine HK2.out _ _ HS8.out (fun hHeld => ?_)
    clear HK2
    try simp only [Act.put, List.getElem_toArray, List.getElem_cons_succ, List.getElem_cons_zero, List.setIfInBounds_toArray, List.set_cons_zero, List.set_cons_succ]
    clear K
    refine wpAnyH_done (by kernel_rfl) ?_ _
    clear hHeld HS8
    go_upto_region 12 with (fail)
    refine wp_region_held_drew (S := fun V => ∀ b, b < w2.heap.size + 2 → b ≠ k.b → b ≠ k.s → V.heap[b]? = w8.heap[b]?) (by kernel_rfl) (fun _ _ _ _ => rfl) (fun hHeld => ?_)
    refine wpAnyH_take (i := 0) (v := .pointer (some ⟨w2.heap.size, 2, none⟩)) rfl (by kernel_rfl) (by kernel_rfl) (by kernel_rfl) (fun _ _ _ h => h) (Or.inl ⟨by rfl, ?_⟩) (by assumption) ?_
    · intro w' hSw
      first | (go_simp; done) | rfl
    try simp only [Act.put, List.getElem_toArray, List.getElem_cons_succ, List.getElem_cons_zero, List.setIfInBounds_toArray, List.set_cons_zero, List.set_cons_succ]
    refine wpAnyH_take (i := 1) (v := .slice q1 t.ks.length cc1) rfl (by kernel_rfl) (by kernel_rfl) (by kernel_rfl) (fun _ _ _ h => h) (Or.inl ⟨by rfl, ?_⟩) (by assumption) ?_
    · intro w' hSw
      obtain ⟨⟨d0, d1, d2⟩, -, dl⟩ := c3 ((hSw (w2.heap.size) (by omega) (by have := HDS.out.1; omega) (by have := HDS.out.2.1; omega)).trans X98.out)
      first | (go_simp; done) | rfl
    try simp only [Act.put, List.getElem_toArray, List.getElem_cons_succ, List.getElem_cons_zero, List.setIfInBounds_toArray, List.set_cons_zero, List.set_cons_succ]
    refine wpAnyH_take (i := 2) (v := .pointer (some ⟨k.b, 0, none⟩)) rfl (by kernel_rfl) (by kernel_rfl) (by kernel_rfl) (fun _ _ _ h => h) (Or.inl ⟨by rfl, ?_⟩) (by assumption) ?_
    · intro w' hSw
      first | (go_simp; done) | rfl
    try simp only [Act.put, List.getElem_toArray, List.getElem_cons_succ, List.getElem_cons_zero, List.setIfInBounds_toArray, List.set_cons_zero, List.set_cons_succ]
    refine wpAnyH_take (i := 3) (v := .pointer (some ⟨w2.heap.size + 1, 2, none⟩)) rfl (by kernel_rfl) (by kernel_rfl) (by kernel_rfl) (fun _ _ _ h => h) (Or.inl ⟨by rfl, ?_⟩) (by assumption) ?_
    · intro w' hSw
      first | (go_simp; done) | rfl
    try simp only [Act.put, List.getElem_toArray, List.getElem_cons_succ, List.getElem_cons_zero, List.setIfInBounds_toArray, List.set_cons_zero, List.set_cons_succ]
    refine wpAnyH_take (i := 4) (v := .slice p2 l2 c2) rfl (by kernel_rfl) (by kernel_rfl) (by kernel_rfl) (fun _ _ _ h => h) (Or.inl ⟨by rfl, ?_⟩) (by assumption) ?_
    · intro w' hSw
      obtain ⟨⟨d0, d1, d2⟩, -, dl⟩ := c3 ((hSw (w2.heap.size + 1) (by omega) (by have := HDS.out.1; omega) (by have := HDS.out.2.1; omega)).trans X108.out)
      first | (go_simp; done) | rfl
    try simp only [Act.put, List.getElem_toArray, List.getElem_cons_succ, List.getElem_cons_zero, List.setIfInBounds_toArray, List.set_cons_zero, List.set_cons_succ]
    refine wpAnyH_take (i := 6) (v := .pointer (some ⟨w2.heap.size, 0, none⟩)) rfl (by kernel_rfl) (by kernel_rfl) (by kernel_rfl) (fun _ _ _ h => h) (Or.inl ⟨by rfl, ?_⟩) (by assumption) ?_
    · intro w' hSw
      first | (go_simp; done) | rfl
    try simp only [Act.put, List.getElem_toArray, List.getElem_cons_succ, List.getElem_cons_zero, List.setIfInBounds_toArray, List.set_cons_zero, List.set_cons_succ]
    refine wpAnyH_take (i := 7) (v := .int .u8 h1.k) rfl (by kernel_rfl) (by kernel_rfl) (by kernel_rfl) (fun _ _ _ h => h) (Or.inl ⟨by rfl, ?_⟩) (by assumption) ?_
    · intro w' hSw
      obtain ⟨⟨d0, d1, d2⟩, -, dl⟩ := c3 ((hSw (w2.heap.size) (by omega) (by have := HDS.out.1; omega) (by have := HDS.out.2.1; omega)).trans X98.out)
      first | (go_simp; done) | rfl
    try simp only [Act.put, List.getElem_toArray, List.getElem_cons_succ, List.getElem_cons_zero, List.setIfInBounds_toArray, List.set_cons_zero, List.set_cons_succ]
    refine wpAnyH_take (i := 8) (v := .pointer (some ⟨w2.heap.size + 1, 0, none⟩)) rfl (by kernel_rfl) (by kernel_rfl) (by kernel_rfl) (fun _ _ _ h => h) (Or.inl ⟨by rfl, ?_⟩) (by assumption) ?_
    · intro w' hSw
      first | (go_simp; done) | rfl
    try simp only [Act.put, List.getElem_toArray, List.getElem_cons_succ, List.getElem_cons_zero, List.setIfInBounds_toArray, List.set_cons_zero, List.set_cons_succ]
    refine wpAnyH_take (i := 9) (v := .int .u8 h2.k) rfl (by kernel_rfl) (by kernel_rfl) (by kernel_rfl) (fun _ _ _ h => h) (Or.inl ⟨by rfl, ?_⟩) (by assumption) ?_
    · intro w' hSw
      obtain ⟨⟨d0, d1, d2⟩, -, dl⟩ := c3 ((hSw (w2.heap.size + 1) (by omega) (by have := HDS.out.1; omega) (by have := HDS.out.2.1; omega)).trans X108.out)
      first | (go_simp; done) | rfl
    try simp only [Act.put, List.getElem_toArray, List.getElem_cons_succ, List.getElem_cons_zero, List.setIfInBounds_toArray, List.set_cons_zero, List.set_cons_succ]
    refine wpAnyH_take (i := 10) (v := .bool (h1.k == h2.k)) rfl (by kernel_rfl) (by kernel_rfl) (by kernel_rfl) (fun _ _ _ h => h) (Or.inl ⟨by rfl, ?_⟩) (by assumption) ?_
    · intro w' hSw
      first | (go_simp; done) | rfl
    try simp only [Act.put, List.getElem_toArray, List.getElem_cons_succ, List.getElem_cons_zero, List.setIfInBounds_toArray, List.set_cons_zero, List.set_cons_succ]
    refine wpAnyH_ready (rs := [5]) (by kernel_rfl) (by simp) ?_
    refine AllReadyH.cons rfl (fun K hK => ?_) AllReadyH.nil
    have HK2 := Lib.hid hK
    clear hK
    try rw [if_pos (by rfl)]
    go_simp
    refine (opened_walk P1 k u (opN n t.ks) _ _ s.ks p2 l2 c2 w8.drew (HT8.out.below ⟨rfl, rfl, rfl, Nat.le_refl _, fun _ _ => rfl⟩) ((Kp.refl P1 w8).drew.ty HOY8.out).kids HOY8.out.len HMH1.out.1 (by have := HOY8.out.len; have := HMH1.out.2; have := HML1.out.2; have := opN_most t.ks n; have := HN.out; omega) (fun b hb => HNEW.out b (Nat.le_trans HZ8.out hb))).mono ?_
    rintro en w9 ⟨q2, cc2, rfl, hd1, hd2, hkd2, hTf, hkp0⟩
    have hkp : Kp (fun b => decide (b ≠ k.b ∧ b ≠ k.s)) w8 w9 := ⟨hkp0.os, hkp0.tape, hkp0.output, hkp0.size, hkp0.block⟩
    have hkP := kp_P HT8.out.me.pb HT8.out.me.ps hkp
    have HKD9 := Lib.hid (hkP.kids HKD8.out); have HD2K := Lib.hid hkd2; have HD2C := Lib.hid hd2; have HT9 := Lib.hid hTf; have HK9 := Lib.hid (HK8.out.trans (kq_o hkp))
    have HS9 := Lib.hid (fun b (hb : b < w2.heap.size + 2) (h : b ≠ k.b) (h' : b ≠ k.s) => hkp.block b (by have := HZ8.out; omega) (decide_eq_true ⟨h, h'⟩))
    clear hd1 hd2 hkd2 hTf hkp0 hkp hkP
    refine HK2.out _ _ HS9.out (fun hHeld => ?_)
    clear HK2
    try simp only [Act.put, List.getElem_toArray, List.getElem_cons_succ, List.getElem_cons_zero, List.setIfInBounds_toArray, List.set_cons_zero, List.set_cons_succ]
    clear K
    refine wpAnyH_take (i := 11) (v := .slice q1 t.ks.length cc1) rfl (by kernel_rfl) (by kernel_rfl) (by kernel_rfl) (fun _ _ _ h => h) (Or.inl ⟨by rfl, ?_⟩) (by assumption) ?_
    · intro w' hSw
      first | (go_simp; done) | rfl
    try simp only [Act.put, List.getElem_toArray, List.getElem_cons_succ, List.getElem_cons_zero, List.setIfInBounds_toArray, List.set_cons_zero, List.set_cons_succ]
    refine wpAnyH_take (i := 12) (v := .slice q2 s.ks.length cc2) rfl (by kernel_rfl) (by kernel_rfl) (by kernel_rfl) (fun _ _ _ h => h) (Or.inl ⟨by rfl, ?_⟩) (by assumption) ?_
    · intro w' hSw
      first | (go_simp; done) | rfl
    try simp only [Act.put, List.getElem_toArray, List.getElem_cons_succ, List.getElem_cons_zero, List.setIfInBounds_toArray, List.set_cons_zero, List.set_cons_succ]
    refine wpAnyH_take (i := 13) (v := .bool (h1.k == h2.k)) rfl (by kernel_rfl) (by kernel_rfl) (by kernel_rfl) (fun _ _ _ h => h) (Or.inl ⟨by rfl, ?_⟩) (by assumption) ?_
    · intro w' hSw
      first | (go_simp; done) | rfl
    try simp only [Act.put, List.getElem_toArray, List.getElem_cons_succ, List.getElem_cons_zero, List.setIfInBounds_toArray, List.set_cons_zero, List.set_cons_succ]
    refine wpAnyH_done (by kernel_rfl) ?_ _
    clear hHeld HS9
    have HFIN := Lib.hid (show OneEnd P k u n e g lo hi w (.returned (.tuple #[.slice q1 t.ks.length cc1, .slice q2 s.ks.length cc2, .bool (h1.k == h2.k)])) w9 from ⟨opV n t.ks, opV (opN n t.ks) s.ks, opN (opN n t.ks) s.ks, _, h1.k == h2.k, q1, q2, cc1, cc2, by unfold oneR; rw [if_neg HN2.out, if_neg HN1.out, ← HSE.out, ← HTE.out, HTY8.out.head, HOY8.out.head]; rfl, by rw [opV_len, opV_len], HC1.out.2, HD2C.out, HKD9.out.reads' (veil_to fun b hb hp => ⟨HLE.out b hp, rfl⟩), HD2K.out.reads' (veil_to fun b hb hp => ⟨HLE.out b hp, rfl⟩), (HT9.out.reP (veil_to fun b hb hp => ⟨HLE.out b hp, rfl⟩) HT.out.me.pb HT.out.me.ps HT.out.me.pi HT.out.upP), HK9.out⟩)
    go_wp2_with (fail)
    exact bodyPost_ret (by simp [results, Tryd.results52, go_sem]) rfl HFIN.out
  | true =>
    rw [hgh] at hlk
    have HGE := Lib.hid (gU_yes (lo := lo) hgh)
    obtain ⟨F, hM, hF⟩ := HT5.out.me.inn
    have hln : ∀ x, u = some x → lo < x.2.1 := fun x hx => by
      have hu := HT5.out.up
      subst hx
      have := hu.1.glt hi hgh
      have := HLH.out
      omega
    have hFn : ∀ i, KeyOk i → F i ≠ none → i < n + 1 := fun i _ hi => by
      rcases hF i with ⟨a, _⟩ | ⟨_, a⟩
      · exact absurd a hi
      · have := HT5.out.me.glt i a; omega
    clear hgh
    go_upto_region 5 with (refine wpList_store 57 4 Tryd.underlying57 k.i (n + 1) lo F (.bool true) rfl rfl rfl hM hFn (by have := HT5.out.me.few; unfold maxLen; omega) (keyOk_of (by have := HHN.out; have := HN.out; have := HLH.out; omega)) (fun w6 hm hg hs => ?_))
    have hkp : Kp (fun b => decide (b ≠ k.i)) w5 w6 := ⟨hg.os, hg.tape, hg.output, Nat.le_of_eq hs.symm, fun b hb hp => store_off hg hs (of_decide_eq_true hp)⟩
    have hput := HT5.out.mark hkp (InAt.put hF hm) (by have := HHN.out; have := HN.out; have := HLH.out; omega) hln
    have hkP := veil_kp HT5.out.me.pi hkp
    rw [← HGE.out] at hput
    have HT6 := Lib.hid hput; have HK6 := Lib.hid (HK5.out.trans (kq_i hkp)); have X96 := Lib.hid ((hkp.block _ (lt_of_block X95.out) (ne_true (by have := HDS.out; omega))).trans X95.out); have X106 := Lib.hid ((hkp.block _ (lt_of_block X105.out) (ne_true (by have := HDS.out; omega))).trans X105.out)
    have HTY6 := Lib.hid (hkP.ty HTY5.out); have HOY6 := Lib.hid (hkP.ty HOY5.out); have HZ6 := Lib.hid (show w2.heap.size + 2 ≤ w6.heap.size by have := hkp.size; have := HZ5.out; omega)
    clear hM hF hFn hm hg hs hkp hput hkP hln hlk d0 d1 d2 d3 dl
    clear HT5 HK5 X95 X105 HTY5 HOY5
    obtain ⟨⟨g0, g1, g2⟩, gf, gl⟩ := c3 X106.out
    by_cases hk2 : h2.k = 0
    · have hq : (h2.k == 0) = true := by rw [hk2]; rfl
      have HFIN := Lib.hid (show OneEnd P k u n e g lo hi w (.returned (.tuple #[.slice none 0 0, .slice none 0 0, .bool true])) w6 from ⟨[], [], n, _, true, none, none, 0, 0, by unfold oneR; rw [if_pos (by rw [← HSE.out, HOY6.out.head]; exact hk2)], rfl, Nat.zero_le _, Nat.zero_le _, .nokids _, .nokids _, (HT6.out.reP (veil_to fun b hb hp => ⟨HLE.out b hp, rfl⟩) HT.out.me.pb HT.out.me.ps HT.out.me.pi HT.out.upP), HK6.out⟩)
      clear hk2
      go_wp2_with (fail)
      exact bodyPost_ret (by simp [results, Tryd.results52, go_sem]) rfl HFIN.out
    have hq : (h2.k == 0) = false := beq_eq_false_iff_ne.2 hk2
    have hn2 : ¬ (tyO (cmb u e hi)).h.k = 0 := by rw [← HSE.out, HOY6.out.head]; exact hk2
    have HN2 := Lib.hid hn2
    clear hk2 hn2
    obtain ⟨⟨e0, e1, e2⟩, ef, el⟩ := c3 X96.out
    by_cases hk1 : h1.k = 0
    · have hq1 : (h1.k == 0) = true := by rw [hk1]; rfl
      have HZK := Lib.hid (show (tyO (cmb u e lo)).h.k = 0 from by rw [← HTE.out, HTY6.out.head]; exact hk1)
      clear hk1
      go_upto_region 8 with (fail)
      clear hq hq1 g0 g1 g2 gf gl e0 e1 e2 ef el
      refine wp_region_held_drew (S := fun V => ∀ b, b < w2.heap.size + 2 → b ≠ k.s → V.heap[b]? = w6.heap[b]?) (by kernel_rfl) (fun _ _ _ => rfl) (fun hHeld => ?_)
      refine wpAnyH_take (i := 0) (v := .pointer (some ⟨k.b, 0, none⟩)) rfl (by kernel_rfl) (by kernel_rfl) (by kernel_rfl) (fun _ _ _ h => h) (Or.inl ⟨by rfl, ?_⟩) (by assumption) ?_
      · intro w' hSw
        first | (go_simp; done) | rfl
      try simp only [Act.put, List.getElem_toArray, List.getElem_cons_succ, List.getElem_cons_zero, List.setIfInBounds_toArray, List.set_cons_zero, List.set_cons_succ]
      refine wpAnyH_take (i := 1) (v := .pointer (some ⟨k.b, 0, none⟩)) rfl (by kernel_rfl) (by kernel_rfl) (by kernel_rfl) (fun _ _ _ h => h) (Or.inl ⟨by rfl, ?_⟩) (by assumption) ?_
      · intro w' hSw
        first | (go_simp; done) | rfl
      try simp only [Act.put, List.getElem_toArray, List.getElem_cons_succ, List.getElem_cons_zero, List.setIfInBounds_toArray, List.set_cons_zero, List.set_cons_succ]
      refine wpAnyH_take (i := 2) (v := .pointer (some ⟨k.b, 2, none⟩)) rfl (by kernel_rfl) (by kernel_rfl) (by kernel_rfl) (fun _ _ _ h => h) (Or.inl ⟨by rfl, ?_⟩) (by assumption) ?_
      · intro w' hSw
        first | (go_simp; done) | rfl
      try simp only [Act.put, List.getElem_toArray, List.getElem_cons_succ, List.getElem_cons_zero, List.setIfInBounds_toArray, List.set_cons_zero, List.set_cons_succ]
      refine wpAnyH_take (i := 3) (v := .map (some k.s)) rfl (by kernel_rfl) (by kernel_rfl) (by kernel_rfl) (fun _ _ _ h => h) (Or.inl ⟨by rfl, ?_⟩) (by assumption) ?_
      · intro w' hSw
        obtain ⟨d0, d1, d2, d3, dl⟩ := bkc ((hSw k.b (by have := HDS.out.1; omega) HT6.out.me.bs).trans HT6.out.me.box)
        first | (go_simp; done) | rfl
      try simp only [Act.put, List.getElem_toArray, List.getElem_cons_succ, List.getElem_cons_zero, List.setIfInBounds_toArray, List.set_cons_zero, List.set_cons_succ]
      refine wpAnyH_take (i := 4) (v := .int .i64 (lo : Int)) rfl (by kernel_rfl) (by kernel_rfl) (by kernel_rfl) (fun _ _ _ h => h) (Or.inl ⟨by rfl, ?_⟩) (by assumption) ?_
      · intro w' hSw
        first | (go_simp; done) | rfl
      try simp only [Act.put, List.getElem_toArray, List.getElem_cons_succ, List.getElem_cons_zero, List.setIfInBounds_toArray, List.set_cons_zero, List.set_cons_succ]
      refine wpAnyH_take (i := 5) (v := .agg #[.int .u8 h2.k, .int .i64 h2.v, .slice p2 l2 c2]) rfl (by kernel_rfl) (by kernel_rfl) (by kernel_rfl) (fun _ _ _ h => h) (Or.inl ⟨by rfl, ?_⟩) (by assumption) ?_
      · intro w' hSw
        obtain ⟨⟨d0, d1, d2⟩, -, dl⟩ := c3 ((hSw (w2.heap.size + 1) (by omega) (by have := HDS.out.2.1; omega)).trans X106.out)
        first | (go_simp; done) | rfl
      try simp only [Act.put, List.getElem_toArray, List.getElem_cons_succ, List.getElem_cons_zero, List.setIfInBounds_toArray, List.set_cons_zero, List.set_cons_succ]
      refine wpAnyH_ready (rs := [6]) (by kernel_rfl) (by simp) ?_
      refine AllReadyH.cons rfl (fun K hK => ?_) AllReadyH.nil
      have HK2 := Lib.hid hK
      clear hK
      try rw [if_pos (by rfl)]
      obtain ⟨F, hM, hF⟩ := HT6.out.me.st
      have hFn : ∀ i, KeyOk i → F i ≠ none → i < n + 1 := fun i _ hi => by
        rcases hF i with ⟨_, b⟩ | ⟨z, _, _, _, _, a, _⟩
        · exact absurd b hi
        · have := HT6.out.me.lt i z a; omega
      refine wp_store 56 25 Tryd.underlying56 k.s (n + 1) lo F (.agg #[.int .u8 h2.k, .int .i64 h2.v, .slice p2 l2 c2]) rfl rfl rfl (hM.of_block rfl) hFn (by have := HT6.out.me.few; unfold maxLen; omega) (keyOk_of (by have := HHN.out; have := HN.out; have := HLH.out; omega)) (fun w7 hm hg hs => ?_)
      replace hg : w6.grownBy w7 (some k.s) := ⟨hg.os, hg.tape, hg.output, hg.size, hg.block⟩
      replace hs : w7.heap.size = w6.heap.size := hs
      have hoff : ∀ b, b ≠ k.s → w7.heap[b]? = w6.heap[b]? := fun b hb => store_off hg hs hb
      have hkp : Kp (fun b => decide (b ≠ k.s)) w6 w7 := ⟨hg.os, hg.tape, hg.output, Nat.le_of_eq hs.symm, fun b hb hp => hoff b (of_decide_eq_true hp)⟩
      have hput := HT6.out.put hkp (StAt.put hF (HOY6.out) hm (veil_kp HT6.out.me.ps hkp).reads) (fun v z hvt => by
        by_cases e : v = lo
        · have := HHN.out; have := HN.out; have := HLH.out; omega
        · rw [upd_other _ _ e] at hvt; exact HT6.out.me.lt v z hvt)
      have hkP := veil_kp HT6.out.me.ps hkp
      have HS7 := Lib.hid (fun b (hb : b < w2.heap.size + 2) (h : b ≠ k.s) => hoff b h)
      have HT7 := Lib.hid hput; have HK7 := Lib.hid (HK6.out.trans (kq_s hkp)); have X97 := Lib.hid ((hkp.block _ (lt_of_block X96.out) (ne_true (by have := HDS.out; omega))).trans X96.out); have X107 := Lib.hid ((hkp.block _ (lt_of_block X106.out) (ne_true (by have := HDS.out; omega))).trans X106.out)
      have HTY7 := Lib.hid (hkP.ty HTY6.out); have HOY7 := Lib.hid (hkP.ty HOY6.out); have HZ7 := Lib.hid (show w2.heap.size + 2 ≤ w7.heap.size by have := hkp.size; have := HZ6.out; omega)
      clear hM hF hFn hm hg hs hoff hkp hput hkP
      clear HT6 HK6 X96 X106 HTY6 HOY6
      refine HK2.out _ _ HS7.out (fun hHeld => ?_)
      clear HK2
      try simp only [Act.put, List.getElem_toArray, List.getElem_cons_succ, List.getElem_cons_zero, List.setIfInBounds_toArray, List.set_cons_zero, List.set_cons_succ]
      clear K
      refine wpAnyH_done (by kernel_rfl) ?_ _
      clear hHeld HS7
      have HFIN := Lib.hid (show OneEnd P k u n e g lo hi w (.returned (.tuple #[.slice none 0 0, .slice none 0 0, .bool true])) w7 from ⟨[], [], n, _, true, none, none, 0, 0, by unfold oneR; rw [if_neg HN2.out, if_pos HZK.out, ← HSE.out], rfl, Nat.zero_le _, Nat.zero_le _, .nokids _, .nokids _, (HT7.out.reP (veil_to fun b hb hp => ⟨HLE.out b hp, rfl⟩) HT.out.me.pb HT.out.me.ps HT.out.me.pi HT.out.upP), HK7.out⟩)
      go_wp2_with (fail)
      exact bodyPost_ret (by simp [results, Tryd.results52, go_sem]) rfl HFIN.out
    have hq1 : (h1.k == 0) = false := beq_eq_false_iff_ne.2 hk1
    have HN1 := Lib.hid (show ¬ (tyO (cmb u e lo)).h.k = 0 from by rw [← HTE.out, HTY6.out.head]; exact hk1)
    clear hk1
    have how := opened_walk P1 k u n _ _ t.ks p1 l1 c1 w6 HT6.out HTY6.out.kids HTY6.out.len HML1.out.1 (by have := HTY6.out.len; have := HML1.out.2; have := HN.out; omega) (fun b hb => HNEW.out b (by have := HZ6.out; omega))
    have HOW := Lib.hid how
    clear how
    go_wp2_with (fail)
    refine HOW.out.mono ?_
    rintro en w7 ⟨q1, cc1, rfl, hc1, hc2, hkd, hTb, hkp⟩
    clear g0 g1 g2 gf gl e0 e1 e2 ef el hq hq1 HOW
    have hkP := kp_P HT6.out.me.pb HT6.out.me.ps hkp
    have HT7 := Lib.hid hTb; have HK7 := Lib.hid (HK6.out.trans (kq_o hkp)); have X97 := Lib.hid ((hkp.block _ (lt_of_block X96.out) (decide_eq_true ⟨by have := HDS.out; omega, by have := HDS.out; omega⟩)).trans X96.out); have X107 := Lib.hid ((hkp.block _ (lt_of_block X106.out) (decide_eq_true ⟨by have := HDS.out; omega, by have := HDS.out; omega⟩)).trans X106.out)
    have HTY7 := Lib.hid (hkP.ty HTY6.out); have HOY7 := Lib.hid (hkP.ty HOY6.out); have HZ7 := Lib.hid (show w2.heap.size + 2 ≤ w7.heap.size by have := hkp.size; have := HZ6.out; omega)
    clear hkp hkP hTb
    clear HT6 HK6 X96 X106 HTY6 HOY6
    have HKD7 := Lib.hid hkd; have HC1 := Lib.hid (And.intro hc1 hc2)
    clear hkd hc1 hc2
    obtain ⟨⟨e0, e1, e2⟩, ⟨ef0, ef1, ef2⟩, el⟩ := c3 X97.out
    go_upto_region 11 with (fail)
    clear e0 e1 e2 ef0 ef1 ef2 el
    have hx9 := set1b (x := .slice q1 t.ks.length cc1) X97.out
    have hkp : Kp (fun b => decide (b ≠ w2.heap.size)) w7 (w7.setCell ⟨w2.heap.size, 2, none⟩ (.slice q1 t.ks.length cc1)) := (Kp.refl _ _).set (by simp) 2 _
    have hkP : Kp P1 w7 (w7.setCell ⟨w2.heap.size, 2, none⟩ (.slice q1 t.ks.length cc1)) := (Kp.refl _ _).set H9.out 2 _
    have hlw : Below w.heap.size w7 (w7.setCell ⟨w2.heap.size, 2, none⟩ (.slice q1 t.ks.length cc1)) := (Below.refl _ _).setCell (p := ⟨w2.heap.size, 2, none⟩) HWW.out _
    generalize w7.setCell ⟨w2.heap.size, 2, none⟩ (.slice q1 t.ks.length cc1) = w8 at *
    have HT8 := Lib.hid (HT7.out.off hkp H9.out (by have := HDS.out; omega) (fun x hx => by have := HD2.out x hx; omega)); have HK8 := Lib.hid (HK7.out.low hlw); have X98 := Lib.hid hx9; have X108 := Lib.hid ((hkp.block _ (lt_of_block X107.out) (ne_true (by omega))).trans X107.out)
    have HTY8 := Lib.hid (hkP.ty HTY7.out); have HOY8 := Lib.hid (hkP.ty HOY7.out); have HZ8 := Lib.hid (show w2.heap.size + 2 ≤ w8.heap.size by have := hkp.size; have := HZ7.out; omega); have HKD8 := Lib.hid (hkP.kids HKD7.out)
    clear hx9 hkp hkP hlw
    clear HT7 HK7 X97 X107 HTY7 HOY7
    refine wp_region_held_drew (S := fun V => ∀ b, b < w2.heap.size + 2 → b ≠ k.s → V.heap[b]? = w8.heap[b]?) (by kernel_rfl) (fun _ _ _ => rfl) (fun hHeld => ?_)
    refine wpAnyH_take (i := 0) (v := .pointer (some ⟨k.b, 0, none⟩)) rfl (by kernel_rfl) (by kernel_rfl) (by kernel_rfl) (fun _ _ _ h => h) (Or.inl ⟨by rfl, ?_⟩) (by assumption) ?_
    · intro w' hSw
      first | (go_simp; done) | rfl
    try simp only [Act.put, List.getElem_toArray, List.getElem_cons_succ, List.getElem_cons_zero, List.setIfInBounds_toArray, List.set_cons_zero, List.set_cons_succ]
    refine wpAnyH_take (i := 1) (v := .pointer (some ⟨k.b, 0, none⟩)) rfl (by kernel_rfl) (by kernel_rfl) (by kernel_rfl) (fun _ _ _ h => h) (Or.inl ⟨by rfl, ?_⟩) (by assumption) ?_
    · intro w' hSw
      first | (go_simp; done) | rfl
    try simp only [Act.put, List.getElem_toArray, List.getElem_cons_succ, List.getElem_cons_zero, List.setIfInBounds_toArray, List.set_cons_zero, List.set_cons_succ]
    refine wpAnyH_take (i := 2) (v := .pointer (some ⟨k.b, 2, none⟩)) rfl (by kernel_rfl) (by kernel_rfl) (by kernel_rfl) (fun _ _ _ h => h) (Or.inl ⟨by rfl, ?_⟩) (by assumption) ?_
    · intro w' hSw
      first | (go_simp; done) | rfl
    try simp only [Act.put, List.getElem_toArray, List.getElem_cons_succ, List.getElem_cons_zero, List.setIfInBounds_toArray, List.set_cons_zero, List.set_cons_succ]
    refine wpAnyH_take (i := 3) (v := .map (some k.s)) rfl (by kernel_rfl) (by kernel_rfl) (by kernel_rfl) (fun _ _ _ h => h) (Or.inl ⟨by rfl, ?_⟩) (by assumption) ?_
    · intro w' hSw
      obtain ⟨d0, d1, d2, d3, dl⟩ := bkc ((hSw k.b (by have := HDS.out.1; omega) HT8.out.me.bs).trans HT8.out.me.box)
      first | (go_simp; done) | rfl
    try simp only [Act.put, List.getElem_toArray, List.getElem_cons_succ, List.getElem_cons_zero, List.setIfInBounds_toArray, List.set_cons_zero, List.set_cons_succ]
    refine wpAnyH_take (i := 4) (v := .int .i64 (lo : Int)) rfl (by kernel_rfl) (by kernel_rfl) (by kernel_rfl) (fun _ _ _ h => h) (Or.inl ⟨by rfl, ?_⟩) (by assumption) ?_
    · intro w' hSw
      first | (go_simp; done) | rfl
    try simp only [Act.put, List.getElem_toArray, List.getElem_cons_succ, List.getElem_cons_zero, List.setIfInBounds_toArray, List.set_cons_zero, List.set_cons_succ]
    refine wpAnyH_take (i := 5) (v := .agg #[.int .u8 h1.k, .int .i64 h1.v, .slice q1 t.ks.length cc1]) rfl (by kernel_rfl) (by kernel_rfl) (by kernel_rfl) (fun _ _ _ h => h) (Or.inl ⟨by rfl, ?_⟩) (by assumption) ?_
    · intro w' hSw
      obtain ⟨⟨d0, d1, d2⟩, -, dl⟩ := c3 ((hSw (w2.heap.size) (by omega) (by have := HDS.out.2.1; omega)).trans X98.out)
      first | (go_simp; done) | rfl
    try simp only [Act.put, List.getElem_toArray, List.getElem_cons_succ, List.getElem_cons_zero, List.setIfInBounds_toArray, List.set_cons_zero, List.set_cons_succ]
    refine wpAnyH_ready (rs := [6]) (by kernel_rfl) (by simp) ?_
    refine AllReadyH.cons rfl (fun K hK => ?_) AllReadyH.nil
    have HK2 := Lib.hid hK
    clear hK
    try rw [if_pos (by rfl)]
    have hnt : TyIs (veil P1 w8) h1 q1 t.ks.length cc1 (.node h1 ((opV n t.ks).map tyV)) := ⟨rfl, by show ((opV n t.ks).map tyV).length = _; rw [List.length_map, opV_len], HTY8.out.ok, HC1.out, HKD8.out⟩
    obtain ⟨F, hM, hF⟩ := HT8.out.me.st
    have hFn : ∀ i, KeyOk i → F i ≠ none → i < opN n t.ks + 1 := fun i _ hi => by
      rcases hF i with ⟨_, b⟩ | ⟨z, _, _, _, _, a, _⟩
      · exact absurd b hi
      · have := HT8.out.me.lt i z a; omega
    refine wp_store 56 25 Tryd.underlying56 k.s (opN n t.ks + 1) lo F (.agg #[.int .u8 h1.k, .int .i64 h1.v, .slice q1 t.ks.length cc1]) rfl rfl rfl (hM.of_block rfl) hFn (by have := HT8.out.me.few; unfold maxLen; omega) (keyOk_of (by have := HHN.out; have := HN.out; have := HLH.out; have := opN_le t.ks n; omega)) (fun w9 hm hg hs => ?_)
    replace hg : w8.grownBy w9 (some k.s) := ⟨hg.os, hg.tape, hg.output, hg.size, hg.block⟩
    replace hs : w9.heap.size = w8.heap.size := hs
    have hoff : ∀ b, b ≠ k.s → w9.heap[b]? = w8.heap[b]? := fun b hb => store_off hg hs hb
    have hkp : Kp (fun b => decide (b ≠ k.s)) w8 w9 := ⟨hg.os, hg.tape, hg.output, Nat.le_of_eq hs.symm, fun b hb hp => hoff b (of_decide_eq_true hp)⟩
    have hput := HT8.out.put hkp (StAt.put hF (hnt) hm (veil_kp HT8.out.me.ps hkp).reads) (fun v z hvt => by
      by_cases e : v = lo
      · have := HHN.out; have := HN.out; have := HLH.out; have := opN_le t.ks n; omega
      · rw [upd_other _ _ e] at hvt; exact HT8.out.me.lt v z hvt)
    have hkP := veil_kp HT8.out.me.ps hkp
    have HKD9 := Lib.hid (hkP.kids HKD8.out)
    have HS9 := Lib.hid (fun b (hb : b < w2.heap.size + 2) (h : b ≠ k.s) => hoff b h)
    have HT9 := Lib.hid hput; have HK9 := Lib.hid (HK8.out.trans (kq_s hkp)); have X99 := Lib.hid ((hkp.block _ (lt_of_block X98.out) (ne_true (by have := HDS.out; omega))).trans X98.out); have X109 := Lib.hid ((hkp.block _ (lt_of_block X108.out) (ne_true (by have := HDS.out; omega))).trans X108.out)
    have HTY9 := Lib.hid (hkP.ty HTY8.out); have HOY9 := Lib.hid (hkP.ty HOY8.out); have HZ9 := Lib.hid (show w2.heap.size + 2 ≤ w9.heap.size by have := hkp.size; have := HZ8.out; omega)
    clear hM hF hFn hm hg hs hoff hkp hput hkP hnt
    clear HT8 HK8 X98 X108 HTY8 HOY8
    refine HK2.out _ _ HS9.out (fun hHeld => ?_)
    clear HK2
    try simp only [Act.put, List.getElem_toArray, List.getElem_cons_succ, List.getElem_cons_zero, List.setIfInBounds_toArray, List.set_cons_zero, List.set_cons_succ]
    clear K
    refine wpAnyH_done (by kernel_rfl) ?_ _
    clear hHeld HS9
    go_upto_region 12 with (fail)
    refine wp_region_held_drew (S := fun V => ∀ b, b < w2.heap.size + 2 → b ≠ k.b → b ≠ k.s → V.heap[b]? = w9.heap[b]?) (by kernel_rfl) (fun _ _ _ _ => rfl) (fun hHeld => ?_)
    refine wpAnyH_take (i := 0) (v := .pointer (some ⟨w2.heap.size, 2, none⟩)) rfl (by kernel_rfl) (by kernel_rfl) (by kernel_rfl) (fun _ _ _ h => h) (Or.inl ⟨by rfl, ?_⟩) (by assumption) ?_
    · intro w' hSw
      first | (go_simp; done) | rfl
    try simp only [Act.put, List.getElem_toArray, List.getElem_cons_succ, List.getElem_cons_zero, List.setIfInBounds_toArray, List.set_cons_zero, List.set_cons_succ]
    refine wpAnyH_take (i := 1) (v := .slice q1 t.ks.length cc1) rfl (by kernel_rfl) (by kernel_rfl) (by kernel_rfl) (fun _ _ _ h => h) (Or.inl ⟨by rfl, ?_⟩) (by assumption) ?_
    · intro w' hSw
      obtain ⟨⟨d0, d1, d2⟩, -, dl⟩ := c3 ((hSw (w2.heap.size) (by omega) (by have := HDS.out.1; omega) (by have := HDS.out.2.1; omega)).trans X99.out)
      first | (go_simp; done) | rfl
    try simp only [Act.put, List.getElem_toArray, List.getElem_cons_succ, List.getElem_cons_zero, List.setIfInBounds_toArray, List.set_cons_zero, List.set_cons_succ]
    refine wpAnyH_take (i := 2) (v := .pointer (some ⟨k.b, 0, none⟩)) rfl (by kernel_rfl) (by kernel_rfl) (by kernel_rfl) (fun _ _ _ h => h) (Or.inl ⟨by rfl, ?_⟩) (by assumption) ?_
    · intro w' hSw
      first | (go_simp; done) | rfl
    try simp only [Act.put, List.getElem_toArray, List.getElem_cons_succ, List.getElem_cons_zero, List.setIfInBounds_toArray, List.set_cons_zero, List.set_cons_succ]
    refine wpAnyH_take (i := 3) (v := .pointer (some ⟨w2.heap.size + 1, 2, none⟩)) rfl (by kernel_rfl) (by kernel_rfl) (by kernel_rfl) (fun _ _ _ h => h) (Or.inl ⟨by rfl, ?_⟩) (by assumption) ?_
    · intro w' hSw
      first | (go_simp; done) | rfl
    try simp only [Act.put, List.getElem_toArray, List.getElem_cons_succ, List.getElem_cons_zero, List.setIfInBounds_toArray, List.set_cons_zero, List.set_cons_succ]
    refine wpAnyH_take (i := 4) (v := .slice p2 l2 c2) rfl (by kernel_rfl) (by kernel_rfl) (by kernel_rfl) (fun _ _ _ h => h) (Or.inl ⟨by rfl, ?_⟩) (by assumption) ?_
    · intro w' hSw
      obtain ⟨⟨d0, d1, d2⟩, -, dl⟩ := c3 ((hSw (w2.heap.size + 1) (by omega) (by have := HDS.out.1; omega) (by have := HDS.out.2.1; omega)).trans X109.out)
      first | (go_simp; done) | rfl
    try simp only [Act.put, List.getElem_toArray, List.getElem_cons_succ, List.getElem_cons_zero, List.setIfInBounds_toArray, List.set_cons_zero, List.set_cons_succ]
    refine wpAnyH_take (i := 6) (v := .pointer (some ⟨w2.heap.size, 0, none⟩)) rfl (by kernel_rfl) (by kernel_rfl) (by kernel_rfl) (fun _ _ _ h => h) (Or.inl ⟨by rfl, ?_⟩) (by assumption) ?_
    · intro w' hSw
      first | (go_simp; done) | rfl
    try simp only [Act.put, List.getElem_toArray, List.getElem_cons_succ, List.getElem_cons_zero, List.setIfInBounds_toArray, List.set_cons_zero, List.set_cons_succ]
    refine wpAnyH_take (i := 7) (v := .int .u8 h1.k) rfl (by kernel_rfl) (by kernel_rfl) (by kernel_rfl) (fun _ _ _ h => h) (Or.inl ⟨by rfl, ?_⟩) (by assumption) ?_
    · intro w' hSw
      obtain ⟨⟨d0, d1, d2⟩, -, dl⟩ := c3 ((hSw (w2.heap.size) (by omega) (by have := HDS.out.1; omega) (by have := HDS.out.2.1; omega)).trans X99.out)
      first | (go_simp; done) | rfl
    try simp only [Act.put, List.getElem_toArray, List.getElem_cons_succ, List.getElem_cons_zero, List.setIfInBounds_toArray, List.set_cons_zero, List.set_cons_succ]
    refine wpAnyH_take (i := 8) (v := .pointer (some ⟨w2.heap.size + 1, 0, none⟩)) rfl (by kernel_rfl) (by kernel_rfl) (by kernel_rfl) (fun _ _ _ h => h) (Or.inl ⟨by rfl, ?_⟩) (by assumption) ?_
    · intro w' hSw
      first | (go_simp; done) | rfl
    try simp only [Act.put, List.getElem_toArray, List.getElem_cons_succ, List.getElem_cons_zero, List.setIfInBounds_toArray, List.set_cons_zero, List.set_cons_succ]
    refine wpAnyH_take (i := 9) (v := .int .u8 h2.k) rfl (by kernel_rfl) (by kernel_rfl) (by kernel_rfl) (fun _ _ _ h => h) (Or.inl ⟨by rfl, ?_⟩) (by assumption) ?_
    · intro w' hSw
      obtain ⟨⟨d0, d1, d2⟩, -, dl⟩ := c3 ((hSw (w2.heap.size + 1) (by omega) (by have := HDS.out.1; omega) (by have := HDS.out.2.1; omega)).trans X109.out)
      first | (go_simp; done) | rfl
    try simp only [Act.put, List.getElem_toArray, List.getElem_cons_succ, List.getElem_cons_zero, List.setIfInBounds_toArray, List.set_cons_zero, List.set_cons_succ]
    refine wpAnyH_take (i := 10) (v := .bool (h1.k == h2.k)) rfl (by kernel_rfl) (by kernel_rfl) (by kernel_rfl) (fun _ _ _ h => h) (Or.inl ⟨by rfl, ?_⟩) (by assumption) ?_
    · intro w' hSw
      first | (go_simp; done) | rfl
    try simp only [Act.put, List.getElem_toArray, List.getElem_cons_succ, List.getElem_cons_zero, List.setIfInBounds_toArray, List.set_cons_zero, List.set_cons_succ]
    refine wpAnyH_ready (rs := [5]) (by kernel_rfl) (by simp) ?_
    refine AllReadyH.cons rfl (fun K hK => ?_) AllReadyH.nil
    have HK2 := Lib.hid hK
    clear hK
    try rw [if_pos (by rfl)]
    go_simp
    refine (opened_walk P1 k u (opN n t.ks) _ _ s.ks p2 l2 c2 w9.drew (HT9.out.below ⟨rfl, rfl, rfl, Nat.le_refl _, fun _ _ => rfl⟩) ((Kp.refl P1 w9).drew.ty HOY9.out).kids HOY9.out.len HMH1.out.1 (by have := HOY9.out.len; have := HMH1.out.2; have := HML1.out.2; have := opN_most t.ks n; have := HN.out; omega) (fun b hb => HNEW.out b (Nat.le_trans HZ9.out hb))).mono ?_
    rintro en w10 ⟨q2, cc2, rfl, hd1, hd2, hkd2, hTf, hkp0⟩
    have hkp : Kp (fun b => decide (b ≠ k.b ∧ b ≠ k.s)) w9 w10 := ⟨hkp0.os, hkp0.tape, hkp0.output, hkp0.size, hkp0.block⟩
    have hkP := kp_P HT9.out.me.pb HT9.out.me.ps hkp
    have HKD10 := Lib.hid (hkP.kids HKD9.out); have HD2K := Lib.hid hkd2; have HD2C := Lib.hid hd2; have HT10 := Lib.hid hTf; have HK10 := Lib.hid (HK9.out.trans (kq_o hkp))
    have HS10 := Lib.hid (fun b (hb : b < w2.heap.size + 2) (h : b ≠ k.b) (h' : b ≠ k.s) => hkp.block b (by have := HZ9.out; omega) (decide_eq_true ⟨h, h'⟩))
    clear hd1 hd2 hkd2 hTf hkp0 hkp hkP
    refine HK2.out _ _ HS10.out (fun hHeld => ?_)
    clear HK2
    try simp only [Act.put, List.getElem_toArray, List.getElem_cons_succ, List.getElem_cons_zero, List.setIfInBounds_toArray, List.set_cons_zero, List.set_cons_succ]
    clear K
    refine wpAnyH_take (i := 11) (v := .slice q1 t.ks.length cc1) rfl (by kernel_rfl) (by kernel_rfl) (by kernel_rfl) (fun _ _ _ h => h) (Or.inl ⟨by rfl, ?_⟩) (by assumption) ?_
    · intro w' hSw
      first | (go_simp; done) | rfl
    try simp only [Act.put, List.getElem_toArray, List.getElem_cons_succ, List.getElem_cons_zero, List.setIfInBounds_toArray, List.set_cons_zero, List.set_cons_succ]
    refine wpAnyH_take (i := 12) (v := .slice q2 s.ks.length cc2) rfl (by kernel_rfl) (by kernel_rfl) (by kernel_rfl) (fun _ _ _ h => h) (Or.inl ⟨by rfl, ?_⟩) (by assumption) ?_
    · intro w' hSw
      first | (go_simp; done) | rfl
    try simp only [Act.put, List.getElem_toArray, List.getElem_cons_succ, List.getElem_cons_zero, List.setIfInBounds_toArray, List.set_cons_zero, List.set_cons_succ]
    refine wpAnyH_take (i := 13) (v := .bool (h1.k == h2.k)) rfl (by kernel_rfl) (by kernel_rfl) (by kernel_rfl) (fun _ _ _ h => h) (Or.inl ⟨by rfl, ?_⟩) (by assumption) ?_
    · intro w' hSw
      first | (go_simp; done) | rfl
    try simp only [Act.put, List.getElem_toArray, List.getElem_cons_succ, List.getElem_cons_zero, List.setIfInBounds_toArray, List.set_cons_zero, List.set_cons_succ]
    refine wpAnyH_done (by kernel_rfl) ?_ _
    clear hHeld HS10
    have HFIN := Lib.hid (show OneEnd P k u n e g lo hi w (.returned (.tuple #[.slice q1 t.ks.length cc1, .slice q2 s.ks.length cc2, .bool (h1.k == h2.k)])) w10 from ⟨opV n t.ks, opV (opN n t.ks) s.ks, opN (opN n t.ks) s.ks, _, h1.k == h2.k, q1, q2, cc1, cc2, by unfold oneR; rw [if_neg HN2.out, if_neg HN1.out, ← HSE.out, ← HTE.out, HTY9.out.head, HOY9.out.head]; rfl, by rw [opV_len, opV_len], HC1.out.2, HD2C.out, HKD10.out.reads' (veil_to fun b hb hp => ⟨HLE.out b hp, rfl⟩), HD2K.out.reads' (veil_to fun b hb hp => ⟨HLE.out b hp, rfl⟩), (HT10.out.reP (veil_to fun b hb hp => ⟨HLE.out b hp, rfl⟩) HT.out.me.pb HT.out.me.ps HT.out.me.pi HT.out.upP), HK10.out⟩)
    go_wp2_with (fail)
    exact bodyPost_ret (by simp [results, Tryd.results52, go_sem]) rfl HFIN.out
end Types
end Go.Proofs.YtjchplgapaeagaaDoor
