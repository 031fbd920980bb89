/- Unification: mathematics of the statement on rows of pairs: each of the one ahead twice. -/
import Derived.Test.YtjchplgapaeagaaDoorUnTurnsW
namespace Go.Proofs.YtjchplgapaeagaaDoor
open Go.RowKit
set_option linter.unusedVariables false
set_option linter.unusedSimpArgs false
namespace Types

/-- A pair of pairs of .. so many deep. -/
def deep : Nat → Ty → Ty
  | 0, t => t
  | i + 1, t => tPair (deep i t) (deep i t)
theorem deep_wt (t : Ty) : ∀ i, wt (deep i t) + 1 = 2 ^ i * (wt t + 1)
  | 0 => by show wt t + 1 = 2 ^ 0 * (wt t + 1); omega
  | i + 1 => by
    show wt (tPair (deep i t) (deep i t)) + 1 = _
    rw [wt_tPair]
    have := deep_wt t i
    rw [Nat.pow_succ, Nat.mul_comm (2 ^ i) 2, Nat.mul_assoc]
    omega
theorem deep_inj {a b : Ty} : ∀ i, deep i a = deep i b → a = b
  | 0, h => h
  | i + 1, h => deep_inj i (tPair_inj h).1
theorem deep_may {t : Ty} (h : mayT t = true) : ∀ i, mayT (deep i t) = true
  | 0 => h
  | i + 1 => may_tPair (deep_may h i) (deep_may h i)
theorem deep_inst (θ : Nat → Ty) (t : Ty) : ∀ i, inst θ (deep i t) = deep i (inst θ t)
  | 0 => rfl
  | i + 1 => by show inst θ (tPair _ _) = tPair _ _; rw [inst_tPair, deep_inst θ t i]
/-- What is the same behind so many steps. -/
def SG (i : Nat) (θ : Nat → Ty) : Prop := ∀ v, v < 2 * i + 2 → θ v = deep (v / 2) (θ (v % 2))
theorem sg_zero (θ : Nat → Ty) : True ↔ SG 0 θ := by
  refine ⟨fun _ v hv => ?_, fun _ => trivial⟩
  have h1 : v / 2 = 0 := by omega
  have h2 : v % 2 = v := by omega
  rw [h1, h2]; rfl
theorem sg_step (i : Nat) (θ : Nat → Ty) : ((SG i θ ∧ AllOne [tyV (2 * i + 2), tPair (tyV (2 * i)) (tyV (2 * i))] θ) ∧ AllOne [tyV (2 * i + 3), tPair (tyV (2 * i + 1)) (tyV (2 * i + 1))] θ) ↔ SG (i + 1) θ := by
  rw [allOne_two, allOne_two, inst_tPair, inst_tPair, inst_var, inst_var, inst_var, inst_var]
  constructor
  · rintro ⟨⟨h1, h2⟩, h3⟩ v hv
    have e0 := h1 (2 * i) (by omega)
    have e1 := h1 (2 * i + 1) (by omega)
    rw [show 2 * i / 2 = i by omega, show 2 * i % 2 = 0 by omega] at e0
    rw [show (2 * i + 1) / 2 = i by omega, show (2 * i + 1) % 2 = 1 by omega] at e1
    rcases (by omega : v < 2 * i + 2 ∨ v = 2 * i + 2 ∨ v = 2 * i + 3) with h | rfl | rfl
    · exact h1 v h
    · rw [h2, e0, show (2 * i + 2) / 2 = i + 1 by omega, show (2 * i + 2) % 2 = 0 by omega]; rfl
    · rw [h3, e1, show (2 * i + 3) / 2 = i + 1 by omega, show (2 * i + 3) % 2 = 1 by omega]; rfl
  · intro h
    have e0 := h (2 * i) (by omega)
    have e1 := h (2 * i + 1) (by omega)
    have e2 := h (2 * i + 2) (by omega)
    have e3 := h (2 * i + 3) (by omega)
    rw [show 2 * i / 2 = i by omega, show 2 * i % 2 = 0 by omega] at e0
    rw [show (2 * i + 1) / 2 = i by omega, show (2 * i + 1) % 2 = 1 by omega] at e1
    rw [show (2 * i + 2) / 2 = i + 1 by omega, show (2 * i + 2) % 2 = 0 by omega] at e2
    rw [show (2 * i + 3) / 2 = i + 1 by omega, show (2 * i + 3) % 2 = 1 by omega] at e3
    refine ⟨⟨fun v hv => h v (by omega), ?_⟩, ?_⟩
    · rw [e2, e0]; rfl
    · rw [e3, e1]; rfl
/-- It can be. -/
def gAll (v : Nat) : Ty := deep (v / 2) (tyV (v % 2))
theorem gAll_sg (i : Nat) : SG i gAll := fun v _ => by
  unfold gAll
  rw [show v % 2 / 2 = 0 by omega, show v % 2 % 2 = v % 2 by omega]; rfl
theorem gAll_even (i : Nat) : AllOne [tyV (2 * i + 2), tPair (tyV (2 * i)) (tyV (2 * i))] gAll := by
  rw [allOne_two, inst_tPair, inst_var, inst_var]
  unfold gAll
  rw [show (2 * i + 2) / 2 = i + 1 by omega, show (2 * i + 2) % 2 = 0 by omega, show 2 * i / 2 = i by omega, show 2 * i % 2 = 0 by omega]; rfl
theorem gAll_odd (i : Nat) : AllOne [tyV (2 * i + 3), tPair (tyV (2 * i + 1)) (tyV (2 * i + 1))] gAll := by
  rw [allOne_two, inst_tPair, inst_var, inst_var]
  unfold gAll
  rw [show (2 * i + 3) / 2 = i + 1 by omega, show (2 * i + 3) % 2 = 1 by omega, show (2 * i + 1) / 2 = i by omega, show (2 * i + 1) % 2 = 1 by omega]; rfl
/-- The senses then. -/
def gSen (i v : Nat) : Ty := if v < 2 * i + 2 then deep (v / 2) (tyV (v % 2)) else tyV v
theorem tyV_pair {w : Nat} {a b : Ty} (h : tPair a b = tyV w) : False := by
  unfold tPair tyV at h
  injection h with h
  injection h with h _
  exact absurd h (by decide)
theorem deep_var {i w v : Nat} (h : deep i (tyV v) = tyV w) : i = 0 ∧ v = w := by
  cases i with
  | zero => exact ⟨rfl, tyV_inj h⟩
  | succ i => exact (tyV_pair h).elim
theorem gSen_is (i : Nat) : IsSen (SG i) (gSen i) := by
  refine ⟨fun v hv => ?_, fun θ hθ v => ?_, fun v w h => ?_, fun v => ?_⟩
  · unfold gSen
    rw [if_pos hv, if_pos (by omega), show v % 2 / 2 = 0 by omega, show v % 2 % 2 = v % 2 by omega]; rfl
  · unfold gSen
    split
    · rename_i hv; rw [deep_inst, inst_var]; exact hθ v hv
    · rw [inst_var]
  · unfold gSen at h
    split at h
    · obtain ⟨h1, h2⟩ := deep_var h; omega
    · exact Nat.le_of_eq (tyV_inj h).symm
  · unfold gSen
    split
    · exact deep_may (may_V _) _
    · exact may_V _
/-- .. and where both rows are one. -/
theorem sg_both (i : Nat) (θ : Nat → Ty) : SG i θ ∧ AllOne [tyV (2 * i), tyV (2 * i + 1)] θ ↔ SG i θ ∧ θ 0 = θ 1 := by
  rw [allOne_two, inst_var, inst_var]
  refine and_congr_right fun h => ?_
  have e0 := h (2 * i) (by omega)
  have e1 := h (2 * i + 1) (by omega)
  rw [show 2 * i / 2 = i by omega, show 2 * i % 2 = 0 by omega] at e0
  rw [show (2 * i + 1) / 2 = i by omega, show (2 * i + 1) % 2 = 1 by omega] at e1
  rw [e0, e1]
  exact ⟨fun h => deep_inj i h, fun h => by rw [h]⟩
def bSen (i v : Nat) : Ty := if v < 2 * i + 2 then deep (v / 2) (tyV 0) else tyV v
theorem bSen_is (i : Nat) : IsSen (fun θ => SG i θ ∧ AllOne [tyV (2 * i), tyV (2 * i + 1)] θ) (bSen i) := by
  refine isSen_iff (S := fun θ => SG i θ ∧ θ 0 = θ 1) (fun θ => (sg_both i θ).symm) ⟨⟨fun v hv => ?_, ?_⟩, fun θ hθ v => ?_, fun v w h => ?_, fun v => ?_⟩
  · unfold bSen
    rw [if_pos hv, if_pos (by omega), show v % 2 / 2 = 0 by omega]; rfl
  · unfold bSen
    rw [if_pos (by omega), if_pos (by omega)]
  · unfold bSen
    split
    · rename_i hv
      rw [deep_inst, inst_var, hθ.1 v hv]
      rcases (by omega : v % 2 = 0 ∨ v % 2 = 1) with e | e <;> rw [e]
      rw [hθ.2]
    · rw [inst_var]
  · unfold bSen at h
    split at h
    · obtain ⟨h1, h2⟩ := deep_var h; omega
    · exact Nat.le_of_eq (tyV_inj h).symm
  · unfold bSen
    split
    · exact deep_may (may_V _) _
    · exact may_V _
theorem pow_low {i : Nat} (h : 9 ≤ i) : 512 ≤ 2 ^ i := by
  have := Nat.pow_le_pow_right (n := 2) (by omega) h
  exact this
theorem pow_top {i : Nat} (h : i ≤ 8) : 2 ^ i ≤ 256 := by
  have := Nat.pow_le_pow_right (n := 2) (by omega) h
  exact this
theorem grow_err (i n : Nat) (hn : n = 2 * i + 2) : outE n (gSen i) (tyV (2 * i)) 500 = if 7 < i then 3 else 0 := by
  have e : inst (gSen i) (tyV (2 * i)) = deep i (tyV 0) := by
    rw [inst_var]; unfold gSen
    rw [if_pos (by omega), show 2 * i / 2 = i by omega, show 2 * i % 2 = 0 by omega]
  unfold outE
  rw [if_pos (hasB_tyV (by omega)), e]
  have h := deep_wt (tyV 0) i
  rw [wt_tyV, show 2 ^ i * (1 + 1) = 2 ^ (i + 1) by rw [Nat.pow_succ]] at h
  by_cases h7 : 7 < i
  · have := pow_low (i := i + 1) (by omega)
    rw [if_neg (by omega), if_pos h7]
  · have := pow_top (i := i + 1) (by omega)
    rw [if_pos (by omega), if_neg h7]
theorem grow_out (i n : Nat) (hn : n = 2 * i + 2) : outE n (bSen i) (tyV 1) 1 = 0 ∧ outT n (bSen i) (tyV 1) 1 = tyV 0 := by
  have h1 : hasB n (tyV 1) = true := hasB_tyV (by omega)
  have h2 : inst (bSen i) (tyV 1) = tyV 0 := by
    rw [inst_var]; unfold bSen; rw [if_pos (by omega)]; rfl
  unfold outE outT
  rw [h1, h2, wt_tyV]
  exact ⟨rfl, rfl⟩
theorem grow_nv (u x : Nat) : nvK [tyV u, tPair (tyV x) (tyV x)] = 1 := by
  rw [nvK_cons, nvK_cons, nvK_nil, nv_var, nv_eq]
  show 0 + ((if (2 : Int) = 5 then 0 else 1) + nvK [tyV x, tyV x] + 0) = 1
  rw [nvK_cons, nvK_cons, nvK_nil, nv_var, if_neg (by decide)]
theorem grow_has {n u x : Nat} (hu : u < n) (hx : x < n) : ∀ t ∈ [tyV u, tPair (tyV x) (tyV x)], hasB n t = true := fun t ht => by
  simp only [List.mem_cons, List.not_mem_nil, or_false] at ht
  rcases ht with rfl | rfl
  · exact hasB_tyV hu
  · refine hasB_of (may_tPair (may_V x) (may_V x)) fun v hv => ?_
    rw [vars_tPair, vars_var] at hv
    simp at hv
    omega
/-- The blocks of one step. -/
def grW (w : World) (N : Nat) (x u : Int) : World := (w.alloc (.cells #[.int .u8 5, .int .i64 x, .slice none 0 0, .int .u8 5, .int .i64 x, .slice none 0 0] 25)).alloc (.cells #[.int .u8 5, .int .i64 u, .slice none 0 0, .int .u8 2, .int .i64 0, .slice (some ⟨N, 0, none⟩) 2 2] 25)
theorem gr_facts (w : World) (P : Nat → Bool) (hP : ∀ b, w.heap.size ≤ b → P b = true) (x u : Nat) (hx : x ≤ 1000000000) (hu : u ≤ 1000000000) : Below w.heap.size w (grW w w.heap.size x u) ∧ (grW w w.heap.size x u).heap.size = w.heap.size + 2 ∧
    Kids (veil P (grW w w.heap.size x u)) (some ⟨w.heap.size + 1, 0, none⟩) [tyV u, tPair (tyV x) (tyV x)] := by
  obtain ⟨N, hN⟩ : ∃ N, N = w.heap.size := ⟨_, rfl⟩
  obtain ⟨W, hW⟩ : ∃ W, W = grW w w.heap.size x u := ⟨_, rfl⟩
  have hb : Below w.heap.size w W := by rw [hW]; exact (al_new _).alloc (by simp) _
  have x0 : W.heap[N]? = some (.cells #[.int .u8 5, .int .i64 x, .slice none 0 0, .int .u8 5, .int .i64 x, .slice none 0 0] 25 (0, 0)) := by rw [hW, hN]; exact at_more (at_new rfl)
  have x1 : W.heap[N + 1]? = some (.cells #[.int .u8 5, .int .i64 u, .slice none 0 0, .int .u8 2, .int .i64 0, .slice (some ⟨N, 0, none⟩) 2 2] 25 (0, 0)) := by rw [hW, hN]; exact at_new (by simp)
  have hz : W.heap.size = N + 2 := by rw [hW, hN]; unfold grW; simp
  rw [← hW] at *
  rw [← hN] at hP hb ⊢
  have k1 : Kids (veil P W) (some ⟨N, 0, none⟩) [tyV x, tyV x] := kids_blk x0 (hP _ (by omega)) (flat_two (tyV_is _ hx) (tyV_is _ hx))
  exact ⟨hb, hz, kids_blk x1 (hP _ (by omega)) (flat_two (tyV_is _ hu) (tPair_is (by unfold maxLen; omega) k1))⟩
theorem Book.reP {P P' : Nat → Bool} {k : Bk} {w : World} {n m : Nat} {S : (Nat → Ty) → Prop} {σ : Nat → Ty} (h : Book P k w n S σ m) (hp : ∀ b, b < w.heap.size → P b = true → P' b = true) (h1 : P' k.b = false ∧ P' k.s = false ∧ P' k.i = false) : Book P' k w n S σ m := by
  obtain ⟨e, g, nm, st, r, q1, h⟩ := h
  exact ⟨e, g, nm, st, r, q1.reP (veil_to fun b hb hp' => ⟨hp b hb hp', rfl⟩) h1.1 h1.2.1 h1.2.2 (fun x hx => by cases hx), h⟩
end Types
end Go.Proofs.YtjchplgapaeagaaDoor
