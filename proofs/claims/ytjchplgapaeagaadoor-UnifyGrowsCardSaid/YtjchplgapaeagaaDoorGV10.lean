/-Unification: mathematics: what is kept has no more nodes than the trial had. Unification: a round of a trial: what 'one' makes of a book, as a step of its invariant. Unification: how a trial begins. A row of pairs of variables, in memory of one's own; a book that is seen by less. -/
import Derived.Test.YtjchplgapaeagaaDoorGV03
import Derived.Test.YtjchplgapaeagaaDoorGV09
import Derived.Test.YtjchplgapaeagaaDoorGV07
namespace Go.Proofs.YtjchplgapaeagaaDoor
set_option linter.unusedVariables false
namespace Types

def ls (l : List Nat) : Nat := l.foldr (· + ·) 0
theorem ls_cons (x : Nat) (l : List Nat) : ls (x :: l) = x + ls l := rfl
theorem ls_map_congr {α : Type} {f h : α → Nat} : ∀ {l : List α}, (∀ u ∈ l, f u = h u) → ls (l.map f) = ls (l.map h)
  | [], _ => rfl
  | x :: l, hx => by rw [List.map_cons, List.map_cons, ls_cons, ls_cons, hx x (by simp), ls_map_congr fun u hu => hx u (by simp [hu])]
theorem ls_append (a b : List Nat) : ls (a ++ b) = ls a + ls b := by
  induction a with
  | nil => show ls b = 0 + ls b; omega
  | cons x a ih => rw [List.cons_append, ls_cons, ls_cons, ih]; omega
theorem ls_zero {α : Type} {f : α → Nat} {l : List α} (h : ∀ u ∈ l, f u = 0) : ls (l.map f) = 0 := by
  induction l with
  | nil => rfl
  | cons x l ih => rw [List.map_cons, ls_cons, h x (by simp), ih fun u hu => h u (by simp [hu])]
/-- Those of a list, at most one of which is there. -/
theorem ls_one {α : Type} {f : α → Nat} : ∀ {l : List α}, (∀ u ∈ l, f u ≤ 1) → (∀ (i j : Nat) (a b : α), l[i]? = some a → l[j]? = some b → 1 ≤ f a → 1 ≤ f b → i = j) → ls (l.map f) ≤ 1
  | [], _, _ => Nat.zero_le _
  | x :: l, h1, h2 => by
    rw [List.map_cons, ls_cons]
    have ih := ls_one (f := f) (l := l) (fun u hu => h1 u (by simp [hu])) fun i j a b p q r s => by
      have := h2 (i + 1) (j + 1) a b (by simpa using p) (by simpa using q) r s; omega
    by_cases hx : f x = 0
    · omega
    · have : ls (l.map f) = 0 := ls_zero fun u hu => by
        obtain ⟨i, hi⟩ := List.mem_iff_getElem?.1 hu
        rcases Nat.eq_zero_or_pos (f u) with e | e
        · exact e
        · have := h2 0 (i + 1) x u (by simp) (by simpa using hi) (by omega) e; omega
      have := h1 x (by simp)
      omega
theorem sum_ls {α : Type} (N : Nat) (φ : Nat → Nat) (F : α → Nat → Nat) : ∀ l : List α, ls (l.map fun u => sumN N fun c => φ c * F u c) = sumN N fun c => φ c * ls (l.map fun u => F u c)
  | [] => by
    show 0 = sumN N fun c => φ c * 0
    rw [sumN_congr (H := fun _ => 0) fun v _ => Nat.mul_zero _, sumN_zero]
  | x :: l => by
    rw [List.map_cons, ls_cons, sum_ls N φ F l, ← sumN_add]
    refine sumN_congr fun c _ => ?_
    rw [List.map_cons, ls_cons, Nat.mul_add]
theorem sum_pick {N : Nat} {φ : Nat → Nat} {c : Nat} (h : c < N) : (sumN N fun c0 => φ c0 * if c = c0 then 1 else 0) = φ c := by
  have e : ∀ c0, (φ c0 * if c = c0 then 1 else 0) = upd (fun _ => 0) c (φ c) c0 := fun c0 => by
    by_cases e : c0 = c
    · subst e; rw [if_pos rfl, upd_same, Nat.mul_one]
    · rw [if_neg (fun h => e h.symm), upd_other _ _ e, Nat.mul_zero]
  rw [sumN_congr fun v _ => e v]
  have := sumN_upd (F := fun _ => 0) (v := c) (x := φ c) h
  rw [sumN_zero] at this
  simpa using this
/-- The nodes of what was put in. -/
theorem nv_inst {θ : Nat → Ty} : ∀ t, mayT t = true → nv (inst θ t) = nv t + ls ((varsT t).map fun u => nv (θ u)) := by
  refine ty_rec fun t ih hm => ?_
  by_cases hk : t.h.k = 5
  · have e := is_var hm hk
    rw [e, inst_var, nv_var, vars_var]
    show nv (θ t.h.v.toNat) = 0 + (nv (θ t.h.v.toNat) + 0)
    omega
  · rw [inst_eq, if_neg hk, nv_eq, if_neg (show ¬ (Ty.node t.h (instK θ t.ks)).h.k = 5 from hk), nv_eq t, if_neg hk, varsT_ks hk]
    have hl : ∀ l : List Ty, (∀ u ∈ l, mayT u = true ∧ (mayT u = true → nv (inst θ u) = nv u + ls ((varsT u).map fun u => nv (θ u)))) → nvK (instK θ l) = nvK l + ls ((varsK l).map fun u => nv (θ u)) := by
      intro l
      induction l with
      | nil => intro _; rw [instK_nil, nvK_nil, varsK_nil]; rfl
      | cons x l ihl =>
        intro h
        rw [instK_cons, nvK_cons, nvK_cons, varsK_cons, List.map_append, ls_append, (h x (by simp)).2 (h x (by simp)).1, ihl fun u hu => h u (by simp [hu])]
        omega
    have := hl t.ks fun u hu => ⟨may_mem hm hu, ih u hu⟩
    show 1 + nvK (instK θ t.ks) = _
    rw [this]; omega
section
variable {n0 : Nat} {nm0 : Nat → Nat} {st0 : Nat → Option Ty} {σ0 : Nat → Ty} {n1 : Nat} {G : (Nat → Ty) → Prop}
    {N : Nat} {nm : Nat → Nat} {st : Nat → Option Ty} {O : Nat → Ty} {par pos : Nat → Nat} {joined : List Nat} {g : Nat → Bool} {row : List (Nat × Nat)} {r : Nat → Nat}
def cuF (n0 : Nat) (nm : Nat → Nat) (st : Nat → Option Ty) (c0 : Nat) : Nat → Nat → Nat
  | 0, c => if c = c0 then 1 else 0
  | k + 1, c => (if c = c0 then 1 else 0) + match st c with
    | none => 0
    | some t => ls ((varsT t).map fun u => if nm u < n0 then 0 else cuF n0 nm st c0 k (nm u))
/-- How often c0 stands in what is told of a name. -/
def cu (n0 : Nat) (nm : Nat → Nat) (st : Nat → Option Ty) (r : Nat → Nat) (c0 c : Nat) : Nat := cuF n0 nm st c0 (r c + 1) c
theorem cuF_stay (ha : ∀ v t, st v = some t → ∀ w ∈ varsT t, r (nm w) < r v) (c0 : Nat) : ∀ k c, r c < k → cuF n0 nm st c0 (k + 1) c = cuF n0 nm st c0 k c := by
  intro k
  induction k with
  | zero => intro c h; omega
  | succ k ih =>
    intro c h
    conv => lhs; unfold cuF
    conv => rhs; unfold cuF
    cases hs : st c with
    | none => rfl
    | some t =>
      show _ + ls _ = _ + ls _
      rw [ls_map_congr fun u hu => ?_]
      split
      · rfl
      · exact ih _ (by have := ha c t hs u hu; omega)
theorem cuF_cu (ha : ∀ v t, st v = some t → ∀ w ∈ varsT t, r (nm w) < r v) (c0 k c : Nat) (h : r c < k) : cuF n0 nm st c0 k c = cu n0 nm st r c0 c := by
  obtain ⟨d, rfl⟩ : ∃ d, k = r c + 1 + d := ⟨k - (r c + 1), by omega⟩
  clear h
  induction d with
  | zero => rfl
  | succ d ih => rw [← ih]; exact cuF_stay ha c0 (r c + 1 + d) c (by omega)
theorem cu_none {c0 c : Nat} (hs : st c = none) : cu n0 nm st r c0 c = if c = c0 then 1 else 0 := by
  unfold cu cuF
  rw [hs]
  rfl
theorem cu_some (ha : ∀ v t, st v = some t → ∀ w ∈ varsT t, r (nm w) < r v) {c0 c : Nat} {t : Ty} (hs : st c = some t) : cu n0 nm st r c0 c = (if c = c0 then 1 else 0) + ls ((varsT t).map fun u => if nm u < n0 then 0 else cu n0 nm st r c0 (nm u)) := by
  unfold cu
  conv => lhs; unfold cuF
  rw [hs]
  show _ + ls _ = _ + ls _
  rw [ls_map_congr fun u hu => ?_]
  split
  · rfl
  · exact cuF_cu ha c0 _ _ (ha c t hs u hu)
theorem ls_pos {α : Type} {f : α → Nat} : ∀ {l : List α}, 1 ≤ ls (l.map f) → ∃ u ∈ l, 1 ≤ f u
  | [], h => by simp [ls] at h
  | x :: l, h => by
    rw [List.map_cons, ls_cons] at h
    by_cases hx : 1 ≤ f x
    · exact ⟨x, by simp, hx⟩
    · obtain ⟨u, hu, h1⟩ := ls_pos (f := f) (l := l) (by omega)
      exact ⟨u, by simp [hu], h1⟩
theorem cu_way (ha : ∀ v t, st v = some t → ∀ w ∈ varsT t, r (nm w) < r v) (c0 : Nat) : ∀ c, 1 ≤ cu n0 nm st r c0 c → ∃ i, Way n0 nm st c0 i c := by
  refine rank_rec r fun c ih => ?_
  intro h
  by_cases e : c = c0
  · exact ⟨0, by rw [e]; exact .here⟩
  · cases hs : st c with
    | none => rw [cu_none hs, if_neg e] at h; omega
    | some t =>
      rw [cu_some ha hs, if_neg e, Nat.zero_add] at h
      obtain ⟨u, hu, h1⟩ := ls_pos h
      by_cases hn : nm u < n0
      · rw [if_pos hn] at h1; omega
      · rw [if_neg hn] at h1
        obtain ⟨i, w⟩ := ih _ (ha c t hs u hu) h1
        exact ⟨i + 1, .up hs hu (by omega) w⟩
theorem TrI.cu_one (h : TrI n0 nm0 st0 σ0 n1 G N nm st O par pos row joined g) (ha : ∀ v t, st v = some t → ∀ w ∈ varsT t, r (nm w) < r v) (c0 : Nat) : ∀ c, cu n0 nm st r c0 c ≤ 1 := by
  have hone : ∀ x y j, Way n0 nm st c0 j x → Way n0 nm st c0 j y → x = y := fun x y j a b => h.way_one a b
  have hno : ∀ c i j, Way n0 nm st c0 i c → Way n0 nm st c0 j c → i = j := fun c i j a b => by
    rcases Nat.lt_trichotomy i j with e | e | e
    · have := way_rank ha b i c e a hone; omega
    · exact e
    · have := way_rank ha a j c e b hone; omega
  refine rank_rec r fun c ih => ?_
  cases hs : st c with
  | none => rw [cu_none hs]; split <;> omega
  | some t =>
    rw [cu_some ha hs]
    have hway : ∀ u ∈ varsT t, 1 ≤ (if nm u < n0 then 0 else cu n0 nm st r c0 (nm u)) → n0 ≤ nm u ∧ ∃ i, Way n0 nm st c0 i (nm u) := fun u hu h1 => by
      by_cases hn : nm u < n0
      · rw [if_pos hn] at h1; omega
      · rw [if_neg hn] at h1
        exact ⟨by omega, cu_way ha c0 _ h1⟩
    have hsum : ls ((varsT t).map fun u => if nm u < n0 then 0 else cu n0 nm st r c0 (nm u)) ≤ 1 := by
      refine ls_one (fun u hu => ?_) fun i j a b hi hj h1 h2 => ?_
      · split
        · omega
        · exact ih _ (ha c t hs u hu)
      · have ma := List.mem_of_getElem? hi
        have mb := List.mem_of_getElem? hj
        obtain ⟨oa, ia, wa⟩ := hway a ma h1
        obtain ⟨ob, ib, wb⟩ := hway b mb h2
        have e := hno c _ _ (Way.up hs ma oa wa) (Way.up hs mb ob wb)
        have e : ia = ib := by omega
        subst e
        have en := hone _ _ _ wa wb
        obtain ⟨ja, la, ka, qa, pa, sa⟩ := h.kid_pos hs ma oa
        obtain ⟨jb, lb, kb, qb, pb, sb⟩ := h.kid_pos hs mb ob
        have ep := (h.p2 a b qa ((h.name _ _ hs).2.2.2.2 a ma).1 qb ((h.name _ _ hs).2.2.2.2 b mb).1 en oa).2
        obtain ⟨_, _, tm, tk, tv⟩ := h.name c t hs
        have hf : ∀ u ∈ t.ks, u.h.k = 5 := by
          rcases h.flat c t hs with hf | hf
          · have := hf a ma; have := h.le a; omega
          · exact hf
        have hvk : ∀ l : List Ty, (∀ u ∈ l, mayT u = true ∧ u.h.k = 5) → varsK l = l.map fun u => u.h.v.toNat := by
          intro l
          induction l with
          | nil => intro _; rw [varsK_nil]; rfl
          | cons x l ihl =>
            intro hx
            rw [varsK_cons, ihl fun u hu => hx u (by simp [hu]), List.map_cons]
            have e := is_var (hx x (by simp)).1 (hx x (by simp)).2
            conv => lhs; rw [e, vars_var]
            rfl
        have hvt : varsT t = t.ks.map fun u => u.h.v.toNat := by rw [varsT_ks tk]; exact hvk _ fun u hu => ⟨may_mem tm hu, hf u hu⟩
        have at_ : ∀ i u, (varsT t)[i]? = some u → n0 ≤ nm u → pos u = i := fun i u hu ho => by
          rw [hvt, List.getElem?_map] at hu
          cases hk : t.ks[i]? with
          | none => rw [hk] at hu; cases hu
          | some s =>
            rw [hk] at hu
            have hu : s.h.v.toNat = u := Option.some.inj hu
            have hil : i < t.ks.length := (List.getElem?_eq_some_iff.1 hk).1
            have es : s = tget t.ks i := by rw [tget_at hil] at hk; exact (Option.some.inj hk).symm
            have hsm := List.mem_of_getElem? hk
            have ev := is_var (may_mem tm hsm) (hf s hsm)
            rw [hu] at ev
            exact (h.p1 c t hs i u hil (by rw [← es]; exact ev) (Nat.le_trans ho (h.le u))).2.2
        rw [← at_ i a hi oa, ← at_ j b hj ob, ep]
    by_cases e : c = c0
    · rw [if_pos e]
      have : ls ((varsT t).map fun u => if nm u < n0 then 0 else cu n0 nm st r c0 (nm u)) = 0 := by
        rcases Nat.eq_zero_or_pos (ls ((varsT t).map fun u => if nm u < n0 then 0 else cu n0 nm st r c0 (nm u))) with e0 | e0
        · exact e0
        · obtain ⟨u, hu, h1⟩ := ls_pos e0
          obtain ⟨o, i, w⟩ := hway u hu h1
          have := hno c 0 (i + 1) (by rw [e]; exact .here) (.up hs hu o w)
          omega
      omega
    · rw [if_neg e]; omega
/-- The nodes of types that names stand for. -/
def wT (st : Nat → Option Ty) (v : Nat) : Nat := match st v with
  | some t => nv t
  | none => 0
theorem TrI.kept_nv (h : TrI n0 nm0 st0 σ0 n1 G N nm st O par pos row joined g) (ha : ∀ v t, st v = some t → ∀ w ∈ varsT t, r (nm w) < r v) : sumN n0 (wT (stK n0 nm st r)) ≤ sumN N (wT st) := by
  have hW : ∀ c, c < N → (match st c with | some t => nv (inst (om n0 nm st r) t) | none => 0) = sumN N fun c0 => wT st c0 * cu n0 nm st r c0 c := by
    refine rank_rec r fun c ih => ?_
    intro hc
    cases hs : st c with
    | none =>
      show 0 = _
      rw [sumN_congr (H := fun c0 => wT st c0 * if c = c0 then 1 else 0) fun v _ => by rw [cu_none hs], sum_pick hc]
      unfold wT; rw [hs]
    | some t =>
      obtain ⟨_, _, tm, tk, tv⟩ := h.name c t hs
      show nv (inst (om n0 nm st r) t) = _
      rw [nv_inst t tm, sumN_congr (H := fun c0 => (wT st c0 * if c = c0 then 1 else 0) + wT st c0 * ls ((varsT t).map fun u => if nm u < n0 then 0 else cu n0 nm st r c0 (nm u))) fun v _ => by rw [cu_some ha hs, Nat.mul_add], sumN_add, sum_pick hc]
      have e1 : wT st c = nv t := by unfold wT; rw [hs]
      rw [e1, ← sum_ls N (wT st) (fun u c0 => if nm u < n0 then 0 else cu n0 nm st r c0 (nm u)) (varsT t)]
      congr 1
      refine ls_map_congr fun u hu => ?_
      by_cases hn : nm u < n0
      · rw [om_under hn, nv_var]
        rw [sumN_congr (H := fun _ => 0) fun v _ => by rw [if_pos hn, Nat.mul_zero], sumN_zero]
      · obtain ⟨s, hsu⟩ := h.own_shut (show n0 ≤ nm u by omega) (Nat.lt_of_le_of_lt (h.le u) (tv u hu).1)
        rw [h.id] at hsu
        have := ih (nm u) (ha c t hs u hu) (Nat.lt_of_le_of_lt (h.le u) (tv u hu).1)
        rw [hsu] at this
        rw [om_own h.id ha hn hsu]
        show nv (inst (om n0 nm st r) s) = _
        rw [show nv (inst (om n0 nm st r) s) = _ from this]
        exact sumN_congr fun v _ => by rw [if_neg hn]
  have h1 : sumN n0 (wT (stK n0 nm st r)) ≤ sumN n0 fun v => sumN N fun c0 => wT st c0 * cu n0 nm st r c0 v := by
    refine sumN_le fun v hv => ?_
    rw [← hW v (by have := h.n01; omega)]
    unfold wT stK
    rw [if_pos hv]
    cases hs : st v with
    | none => exact Nat.le_refl _
    | some t => exact Nat.le_refl _
  rw [sumN_swap] at h1
  refine Nat.le_trans h1 (sumN_le fun c0 hc0 => ?_)
  rw [sumN_mul]
  have h2 : sumN n0 (cu n0 nm st r c0) ≤ 1 := by
    refine sumN_one (fun v _ => h.cu_one ha c0 v) fun u v hu hv h1 h2 => ?_
    obtain ⟨i, wi⟩ := cu_way ha c0 u h1
    obtain ⟨j, wj⟩ := cu_way ha c0 v h2
    rcases Nat.lt_trichotomy i j with e | e | e
    · obtain ⟨d, wd, hd⟩ := way_part wj i e
      have := h.way_one wi wd; omega
    · subst e; exact h.way_one wi wj
    · obtain ⟨d, wd, hd⟩ := way_part wi j e
      have := h.way_one wj wd; omega
  calc wT st c0 * sumN n0 (cu n0 nm st r c0) ≤ wT st c0 * 1 := Nat.mul_le_mul_left _ h2
    _ = wT st c0 := Nat.mul_one _
end
end Types
end Go.Proofs.YtjchplgapaeagaaDoor
namespace Go.Proofs.YtjchplgapaeagaaDoor
set_option linter.unusedVariables false
namespace Types

theorem upd_comm {α : Type} (f : Nat → α) {v w : Nat} (x y : α) (h : v ≠ w) : upd (upd f v x) w y = upd (upd f w y) v x := by
  funext u
  by_cases e : u = w
  · subst e; rw [upd_same, upd_other _ _ (fun e => h e.symm), upd_same]
  · rw [upd_other _ _ e]
    by_cases e' : u = v
    · subst e'; rw [upd_same, upd_same]
    · rw [upd_other _ _ e', upd_other _ _ e', upd_other _ _ e]
theorem opF_upd : ∀ (ts : List Ty) (f : Nat → Option Ty) (N v : Nat) (x : Option Ty), v < N → opF (upd f v x) N ts = upd (opF f N ts) v x
  | [], f, N, v, x, h => rfl
  | t :: ts, f, N, v, x, h => by
    unfold opF
    split
    · exact opF_upd ts f N v x h
    · rw [upd_comm f x (some t) (by omega)]
      exact opF_upd ts _ (N + 1) v x (by omega)
theorem cmb_opF {u : Up} : ∀ (ts : List Ty) (e : Nat → Option Ty) (N : Nat), cmb u (opF e N ts) = opF (cmb u e) N ts
  | [], e, N => rfl
  | t :: ts, e, N => by
    unfold opF
    split
    · exact cmb_opF ts e N
    · rw [cmb_opF ts _ (N + 1), cmb_upd]
section
variable {f : Nat → Option Ty} {nm : Nat → Nat} {st : Nat → Option Ty}
theorem Rep.set (h : Rep f nm st) {v : Nat} {t : Ty} (hv : nm v = v) (hm : mayT t = true) (hk : t.h.k ≠ 5) : Rep (upd f v (some t)) nm (upd st v (some t)) := by
  refine ⟨fun u hu => ?_, fun u w hu => ?_, fun u s hu hs => ?_, fun u s hu => ?_⟩
  all_goals by_cases e : u = v
  · subst e; rw [upd_same] at hu; cases hu
  · rw [upd_other _ _ e] at hu ⊢; exact h.no u hu
  · subst e; rw [upd_same] at hu; cases hu; exact absurd rfl hk
  · rw [upd_other _ _ e] at hu ⊢; exact h.link u w hu
  · subst e; rw [upd_same] at hu ⊢; exact ⟨hv, hu⟩
  · rw [upd_other _ _ e] at hu ⊢; exact h.type u s hu hs
  · subst e; rw [upd_same] at hu; cases hu; exact hm
  · rw [upd_other _ _ e] at hu; exact h.may u s hu
theorem Rep.join (h : Rep f nm st) {lo hi : Nat} (hlt : lo < hi) (hl : nm lo = lo) (hh : nm hi = hi) : Rep (upd f hi (some (tyV lo))) (nmU nm lo hi) (upd st hi none) := by
  have other : ∀ u, nm u = u → u ≠ hi → nmU nm lo hi u = u := fun u hu e => by unfold nmU; rw [hu, if_neg e]
  have hU : nmU nm lo hi hi = lo := by unfold nmU; rw [hh, if_pos rfl]
  refine ⟨fun u hu => ?_, fun u w hu => ?_, fun u s hu hs => ?_, fun u s hu => ?_⟩
  all_goals by_cases e : u = hi
  · subst e; rw [upd_same] at hu; cases hu
  · rw [upd_other _ _ e] at hu ⊢; exact ⟨other u (h.no u hu).1 e, (h.no u hu).2⟩
  · subst e
    rw [upd_same] at hu ⊢
    have := tyV_inj (Option.some.inj hu)
    subst this
    exact ⟨hlt, by rw [hU, other lo hl (by omega)], rfl⟩
  · rw [upd_other _ _ e] at hu ⊢
    obtain ⟨a, b, c⟩ := h.link u w hu
    exact ⟨a, by unfold nmU; rw [b], c⟩
  · subst e; rw [upd_same] at hu; cases hu; exact absurd rfl hs
  · rw [upd_other _ _ e] at hu ⊢; exact ⟨other u (h.type u s hu hs).1 e, (h.type u s hu hs).2⟩
  · subst e; rw [upd_same] at hu; cases hu; exact may_V lo
  · rw [upd_other _ _ e] at hu; exact h.may u s hu
end
theorem Rep.opens {nm : Nat → Nat} : ∀ (ts : List Ty) (N : Nat) (f st : Nat → Option Ty), Rep f nm st → (∀ v, N ≤ v → f v = none) → (∀ s ∈ ts, mayT s = true) → Rep (opF f N ts) nm (opF st N ts) ∧ ∀ v, opN N ts ≤ v → opF f N ts v = none
  | [], N, f, st, h, hf, hm => ⟨h, hf⟩
  | t :: ts, N, f, st, h, hf, hm => by
    unfold opF opN
    split
    · exact Rep.opens ts N f st h hf fun s hs => hm s (by simp [hs])
    · rename_i hk
      exact Rep.opens ts (N + 1) _ _ (h.set (h.no N (hf N (Nat.le_refl _))).1 (hm t (by simp)) hk) (fun v hv => by rw [upd_other _ _ (by omega)]; exact hf v (by omega)) fun s hs => hm s (by simp [hs])
theorem may_kind {t : Ty} (h : mayT t = true) : t.h.k ≠ 0 := by
  rcases (may_node h).1 with ⟨a, _⟩ | ⟨a, _⟩ | ⟨a, _⟩ <;> omega
section
variable {n0 : Nat} {nm0 : Nat → Nat} {st0 : Nat → Option Ty} {σ0 : Nat → Ty} {n1 : Nat} {G : (Nat → Ty) → Prop}
    {N : Nat} {nm : Nat → Nat} {st : Nat → Option Ty} {O : Nat → Ty} {par pos : Nat → Nat} {row : List (Nat × Nat)} {joined : List Nat} {g : Nat → Bool}
theorem TrI.rows (h : TrI n0 nm0 st0 σ0 n1 G N nm st O par pos row joined g) {row' : List (Nat × Nat)} (hp : ∀ p, p ∈ row' ↔ p ∈ row) : TrI n0 nm0 st0 σ0 n1 G N nm st O par pos row' joined g :=
  { h with
    rowlt := fun p hq => h.rowlt p ((hp p).1 hq)
    rowk := fun p hq => h.rowk p ((hp p).1 hq)
    p3 := fun p hq => h.p3 p ((hp p).1 hq)
    sol := fun θ => by
      rw [h.sol θ]
      exact ⟨fun ⟨a, b⟩ => ⟨a, fun p hq => b p ((hp p).1 hq)⟩, fun ⟨a, b⟩ => ⟨a, fun p hq => b p ((hp p).2 hq)⟩⟩
    ag := fun v hv hk => by
      obtain ⟨t, h1, h2, h3, h4⟩ := h.ag v hv hk
      exact ⟨t, h1, h2, h3, fun j hj => (h4 j hj).grow (Nat.le_refl _) (fun _ _ => rfl) fun a b hE c c1 c2 => hE c c1 fun p hq => c2 p ((hp p).2 hq)⟩ }
/-- What a name's kids tell. -/
theorem TrI.kids_low (h : TrI n0 nm0 st0 σ0 n1 G N nm st O par pos row joined g) {v : Nat} {t : Ty} (ht : st v = some t) : ∀ s ∈ t.ks, mayT s = true ∧ (s.h.k ≠ 5 → ∀ w ∈ varsT s, w < n0 ∧ g (nm0 w) = true) := fun s hs => by
  obtain ⟨_, _, a, b, c⟩ := h.name v t ht
  refine ⟨may_mem a hs, fun hk w hw => ?_⟩
  have hwt : w ∈ varsT t := by rw [varsT_eq]; exact List.mem_append_right _ (mem_varsK.2 ⟨s, hs, hw⟩)
  rcases h.flat v t ht with e | e
  · have := e w hwt
    rcases (c w hwt).2 with z | z
    · have := h.n011; omega
    · exact z
  · exact absurd (e s hs) hk
theorem step_opn {ts : List Ty} {N N' : Nat} {st : Nat → Option Ty} {O : Nat → Ty} {par pos : Nat → Nat} {c : Nat} (hm : ∀ s ∈ ts, mayT s = true) {n0 n1 : Nat} {j a : Nat} (ha : (opV N ts)[j]? = some a) (h1 : n1 ≤ N) (hN : opN N ts ≤ N') (hv : ∀ w ∈ varsK ts, w < N) :
    Opn (opF st N ts) (opO O N ts) n0 n1 N' (tget ts j) a ∧ ((tget ts j).h.k ≠ 5 → N ≤ a ∧ a < opN N ts ∧ opP par c N ts a = c ∧ opJ pos N 0 ts a = j) := by
  have hjl : j < ts.length := by rw [← opV_len ts N]; exact (List.getElem?_eq_some_iff.1 ha).1
  rcases opV_get ts st O par pos c 0 N hm j a ha with e | ⟨h0, q1, q2, q3, q4, q5, q6⟩
  · have : a < N := hv a (mem_varsK.2 ⟨_, tget_mem hjl, by rw [e, vars_var]; simp⟩)
    exact ⟨⟨by have := opN_le ts N; omega, .inl e⟩, fun h => absurd (by rw [e]; rfl) h⟩
  · exact ⟨⟨by omega, .inr ⟨by omega, h0, q3, q4⟩⟩, fun _ => ⟨q1, q2, q5, by rw [q6]; omega⟩⟩
/-- A round. -/
theorem TrI.one (h : TrI n0 nm0 st0 σ0 n1 G N nm st O par pos row joined g) (hB : ∀ v, n0 ≤ v → nm0 v = v) (hn0 : ∀ v, nm0 v ≤ v) (h1N : n1 ≤ N) {u : Up} {e : Nat → Option Ty} (hR : Rep (cmb u e) nm st) (hf : ∀ v, N ≤ v → cmb u e v = none)
    {x y lo hi : Nat} {rest : List (Nat × Nat)} {joined' : List Nat} (hr : ∀ p, p ∈ row ↔ p ∈ rest ∨ p = (x, y)) (hj' : ∀ v, v ∈ joined' ↔ v ∈ joined ∨ v = lo ∨ v = hi) (hlt : lo < hi) (hhi : hi < N) (hxy : (nm x = lo ∧ nm y = hi) ∨ (nm x = hi ∧ nm y = lo))
    {aa bb : List Nat} {n' : Nat} {e' : Nat → Option Ty} {can : Bool} (ho : oneR u N e lo hi = (aa, bb, n', e', can)) :
    (can = false → ∃ t o, st lo = some t ∧ st hi = some o ∧ t.h.k ≠ o.h.k) ∧
    (can = true → aa.length = bb.length ∧ N ≤ n' ∧ n' ≤ N + 4 ∧ ∀ row', (∀ p, p ∈ row' ↔ p ∈ rest ∨ p ∈ aa.zip bb) → ∃ st' O' par' pos', TrI n0 nm0 st0 σ0 n1 G n' (nmU nm lo hi) st' O' par' pos' row' joined' (gU g lo hi) ∧ Rep (cmb u e') (nmU nm lo hi) st' ∧ (∀ v, n' ≤ v → cmb u e' v = none) ∧ aa.length + 2 * sS n' (nmU nm lo hi) st' ≤ 2 * sS N nm st ∧
      n' + sO n' st' ≤ N + sO N st) := by
  have hnl : nm lo = lo := by rcases hxy with ⟨a, _⟩ | ⟨_, a⟩ <;> rw [← a] <;> exact h.id _
  have hnh : nm hi = hi := by rcases hxy with ⟨_, a⟩ | ⟨a, _⟩ <;> rw [← a] <;> exact h.id _
  have hlh : lo ≠ hi := by omega
  have el : cmb u e lo = st lo := hR.at hnl
  have eh : cmb u e hi = st hi := hR.at hnh
  have hRj := hR.join hlt hnl hnh
  unfold oneR at ho
  rw [el, eh] at ho
  cases hsh : st hi with
  | none =>
    rw [hsh, if_pos (show (tyO none).h.k = 0 from rfl)] at ho
    cases ho
    refine ⟨fun h => (by cases h), fun _ => ⟨rfl, Nat.le_refl _, by omega, fun row' hrow => ?_⟩⟩
    have hm := h.mergeA hr hj' hlt hxy hn0 hsh
    have hs := sums_U (T := st lo) hlt hhi hnl hnh (st := st)
    have hst : stU st lo hi (st lo) = upd st hi none := by
      funext v
      by_cases e1 : v = lo
      · subst e1; rw [stU_lo, upd_other _ _ hlh]
      · by_cases e2 : v = hi
        · subst e2; rw [stU_hi hlh, upd_same]
        · rw [stU_other e1 e2, upd_other _ _ e2]
    refine ⟨_, O, par, pos, hm.rows (fun p => by rw [hrow]; simp), ?_, fun v hv => ?_, ?_, ?_⟩
    · rw [cmb_upd, hst]; exact hRj
    · rw [cmb_upd, upd_other _ _ (by omega)]; exact hf v hv
    · have w1 : wS nm st hi = 1 := by unfold wS; rw [hsh]; show (if nm hi = hi then 1 else 0) = 1; rw [if_pos hnh]
      have w2 : wS nm st lo = oN (st lo) := by
        unfold wS
        cases st lo with
        | some t => rfl
        | none => show (if nm lo = lo then 1 else 0) = 1; rw [if_pos hnl]
      have := hs.1
      show 0 + _ ≤ _
      omega
    · have w2 : wO st lo = oK (st lo) := by unfold wO; cases st lo <;> rfl
      have := hs.2
      omega
  | some o =>
    obtain ⟨_, _, om, okk, ov⟩ := h.name hi o hsh
    rw [hsh, if_neg (show ¬ (tyO (some o)).h.k = 0 from may_kind om)] at ho
    cases hsl : st lo with
    | none =>
      rw [hsl, if_pos (show (tyO none).h.k = 0 from rfl)] at ho
      cases ho
      refine ⟨fun h => (by cases h), fun _ => ⟨rfl, Nat.le_refl _, by omega, fun row' hrow => ?_⟩⟩
      have hm := h.mergeB hr hj' hlt hxy hn0 hsl
      have hs := sums_U (T := st hi) hlt hhi hnl hnh (st := st)
      rw [hsh] at hm hs
      refine ⟨_, O, par, pos, hm.rows (fun p => by rw [hrow]; simp), ?_, fun v hv => ?_, ?_, ?_⟩
      · rw [cmb_upd, cmb_upd]
        exact hRj.set (by unfold nmU; rw [hnl, if_neg hlh]) om okk
      · rw [cmb_upd, cmb_upd, upd_other _ _ (by omega), upd_other _ _ (by omega)]; exact hf v hv
      · have w1 : wS nm st lo = 1 := by unfold wS; rw [hsl]; show (if nm lo = lo then 1 else 0) = 1; rw [if_pos hnl]
        have w2 : wS nm st hi = oN (some o) := by unfold wS; rw [hsh]; rfl
        have := hs.1
        show 0 + _ ≤ _
        omega
      · have w2 : wO st hi = oK (some o) := by unfold wO; rw [hsh]; rfl
        have := hs.2
        omega
    | some t =>
      obtain ⟨_, _, tm, tkk, tv⟩ := h.name lo t hsl
      rw [hsl, if_neg (show ¬ (tyO (some t)).h.k = 0 from may_kind tm)] at ho
      have ho' : (opV N t.ks, opV (opN N t.ks) o.ks, opN (opN N t.ks) o.ks, opF (upd (opF (upd e hi (some (tyV lo))) N t.ks) lo (some (.node t.h ((opV N t.ks).map tyV)))) (opN N t.ks) o.ks, decide (t.h.k = o.h.k)) = (aa, bb, n', e', can) := ho
      cases ho'
      refine ⟨fun hc => ⟨t, o, rfl, rfl, of_decide_eq_false hc⟩, fun hc => ?_⟩
      have hk := of_decide_eq_true hc
      have mt : ∀ s ∈ t.ks, mayT s = true := fun s hs => may_mem tm hs
      have mo : ∀ s ∈ o.ks, mayT s = true := fun s hs => may_mem om hs
      have hlen : t.ks.length = o.ks.length := by
        have a := may_B tm
        have b := may_B om
        unfold nodeB at a b
        have a := (of_decide_eq_true a).1
        have b := (of_decide_eq_true b).1
        rw [hk] at a
        omega
      have ht2 : t.ks.length ≤ 2 := by rcases (may_node tm).1 with ⟨_, e⟩ | ⟨_, e⟩ | ⟨_, e⟩ <;> omega
      have m1 := opN_most t.ks N
      have m2 := opN_most o.ks (opN N t.ks)
      have l1 := opN_le t.ks N
      have l2 := opN_le o.ks (opN N t.ks)
      refine ⟨by rw [opV_len, opV_len, hlen], by omega, by omega, fun row' hrow => ?_⟩
      have hA := TrI.open_all hB lo t.ks N 0 st O par pos h (h.kids_low hsl)
      have hsh1 : opF st N t.ks hi = some o := by rw [opF_old _ _ _ _ hhi]; exact hsh
      have hC := TrI.open_all hB hi o.ks (opN N t.ks) 0 _ _ _ _ hA (hA.kids_low hsh1)
      have hsl2 : opF (opF st N t.ks) (opN N t.ks) o.ks lo = some t := by rw [opF_old _ _ _ _ (by omega), opF_old _ _ _ _ (by omega)]; exact hsl
      have hsh2 : opF (opF st N t.ks) (opN N t.ks) o.ks hi = some o := by rw [opF_old _ _ _ _ (by omega)]; exact hsh1
      have vt : ∀ w ∈ varsK t.ks, w < N := fun w hw => (tv w (by rw [varsT_eq]; exact List.mem_append_right _ hw)).1
      have vo : ∀ w ∈ varsK o.ks, w < N := fun w hw => (ov w (by rw [varsT_eq]; exact List.mem_append_right _ hw)).1
      have hm := hC.mergeC hr hrow hj' hlt hxy hn0 hsl2 hsh2 hk (opV_len _ _) (opV_len _ _)
        (fun j a ha => by
          obtain ⟨⟨q1, q2⟩, q3⟩ := step_opn (N' := opN (opN N t.ks) o.ks) (st := st) (O := O) (par := par) (pos := pos) (c := lo) (n0 := n0) (n1 := n1) mt ha h1N (by omega) vt
          refine ⟨⟨q1, ?_⟩, fun hk5 => ?_⟩
          · rcases q2 with z | ⟨z1, z2, z3, z4⟩
            · exact .inl z
            · obtain ⟨y1, y2, _⟩ := q3 z2
              exact .inr ⟨z1, z2, by rw [opF_old _ _ _ _ y2]; exact z3, by rw [opO_old _ _ _ _ y2]; exact z4⟩
          · obtain ⟨y1, y2, y3, y4⟩ := q3 hk5
            exact ⟨by omega, by omega, by rw [opP_old _ _ _ _ _ y2, y3]; exact hnl, by rw [opJ_old _ _ _ _ _ y2]; exact y4⟩)
        (fun j a ha => by
          obtain ⟨q1, q3⟩ := step_opn (N' := opN (opN N t.ks) o.ks) (st := opF st N t.ks) (O := opO O N t.ks) (par := opP par lo N t.ks) (pos := opJ pos N 0 t.ks) (c := hi) (n0 := n0) (n1 := n1) mo ha (by omega) (Nat.le_refl _) (fun w hw => Nat.lt_of_lt_of_le (vo w hw) l1)
          refine ⟨q1, fun hk5 => ?_⟩
          obtain ⟨y1, y2, y3, y4⟩ := q3 hk5
          exact ⟨by omega, by omega, by rw [y3]; exact hnh, y4⟩)
      have hs1 := op_sums t.ks N nm st mt
      have hs2 := op_sums o.ks (opN N t.ks) nm (opF st N t.ks) mo
      have hs := sums_U (N := opN (opN N t.ks) o.ks) (T := some (.node t.h ((opV N t.ks).map tyV))) hlt (by omega) hnl hnh (st := opF (opF st N t.ks) (opN N t.ks) o.ks)
      have est : opF (upd (opF (upd st hi none) N t.ks) lo (some (.node t.h ((opV N t.ks).map tyV)))) (opN N t.ks) o.ks = stU (opF (opF st N t.ks) (opN N t.ks) o.ks) lo hi (some (.node t.h ((opV N t.ks).map tyV))) := by
        rw [opF_upd _ _ _ _ _ (by omega), opF_upd _ _ _ _ _ hhi, opF_upd _ _ _ _ _ (by omega)]
        rfl
      have mn : mayT (.node t.h ((opV N t.ks).map tyV)) = true := may_mk (by rw [List.length_map, opV_len]; exact may_B tm) fun z hz => by
        obtain ⟨a, _, rfl⟩ := List.mem_map.1 hz
        exact may_V a
      refine ⟨_, _, _, _, hm, ?_, ?_, ?_, ?_⟩
      · rw [cmb_opF, cmb_upd, cmb_opF, cmb_upd, ← est]
        have r1 := Rep.opens t.ks N _ _ hRj (fun v hv => by rw [upd_other _ _ (by omega)]; exact hf v hv) mt
        have r2 := r1.1.set (v := lo) (t := .node t.h ((opV N t.ks).map tyV)) (by unfold nmU; rw [hnl, if_neg hlh]) mn tkk
        exact (Rep.opens o.ks (opN N t.ks) _ _ r2 (fun v hv => by rw [upd_other _ _ (by omega)]; exact r1.2 v hv) mo).1
      · rw [cmb_opF, cmb_upd, cmb_opF, cmb_upd]
        have r1 := Rep.opens t.ks N _ _ hRj (fun v hv => by rw [upd_other _ _ (by omega)]; exact hf v hv) mt
        have r2 := r1.1.set (v := lo) (t := .node t.h ((opV N t.ks).map tyV)) (by unfold nmU; rw [hnl, if_neg hlh]) mn tkk
        exact (Rep.opens o.ks (opN N t.ks) _ _ r2 (fun v hv => by rw [upd_other _ _ (by omega)]; exact r1.2 v hv) mo).2
      · have w1 : wS nm (opF (opF st N t.ks) (opN N t.ks) o.ks) lo = nv t := by unfold wS; rw [hsl2]
        have w2 : wS nm (opF (opF st N t.ks) (opN N t.ks) o.ks) hi = nv o := by unfold wS; rw [hsh2]
        have e1 := nv_eq t
        have e2 := nv_eq o
        rw [if_neg tkk] at e1
        rw [if_neg okk] at e2
        have e3 : oN (some (.node t.h ((opV N t.ks).map tyV))) = 1 := by
          show nv (.node t.h ((opV N t.ks).map tyV)) = 1
          rw [nv_eq, if_neg (show ¬ (Ty.node t.h ((opV N t.ks).map tyV)).h.k = 5 from tkk)]
          show 1 + nvK ((opV N t.ks).map tyV) = 1
          rw [nvK_vars]
        have := hs.1
        have := opV_len t.ks N
        omega
      · have w1 : wO (opF (opF st N t.ks) (opN N t.ks) o.ks) lo = nvK t.ks := by unfold wO; rw [hsl2]
        have w2 : wO (opF (opF st N t.ks) (opN N t.ks) o.ks) hi = nvK o.ks := by unfold wO; rw [hsh2]
        have e3 : oK (some (.node t.h ((opV N t.ks).map tyV))) = 0 := by
          show nvK ((opV N t.ks).map tyV) = 0
          rw [nvK_vars]
        have := hs.2
        omega
end
end Types
end Go.Proofs.YtjchplgapaeagaaDoor
namespace Go.Proofs.YtjchplgapaeagaaDoor
set_option linter.unusedVariables false
namespace Types

theorem TrI.start {n0 : Nat} {nm0 : Nat → Nat} {st0 : Nat → Option Ty} {g : Nat → Bool} {r0 : Nat → Nat} (hb : Bo n0 nm0 st0 g r0) {n1 : Nat} (h1 : n0 ≤ n1) (par pos : Nat → Nat) :
    TrI n0 nm0 st0 (senB n0 nm0 st0 r0) n1 (fun _ => True) n0 nm0 st0 tyV par pos [] [] g := by
  have hσ : ∀ v t, st0 v = some t → senB n0 nm0 st0 r0 v = inst (senB n0 nm0 st0 r0) t := fun v t ht => hb.sen_shut ht
  refine { n01 := Nat.le_refl _, n011 := h1, le := hb.le, id := hb.id, out := hb.out, ref := hb.id, und := fun v _ => rfl, own := fun v a b => by omega, name := fun v t ht => ?_, flat := fun v t ht => .inl (hb.name v t ht).2.2.2,
           rowlt := fun p hp => (by cases hp), rowk := fun p hp => (by cases hp), h1 := fun v hv hor hn => ?_, h2 := fun v a b => by omega, sol := fun θ => ?_, ag := fun v hv hk => ?_, cl := fun v t ht => ?_, jo := fun w _ _ hor => ?_, jn := fun w hw => (by cases hw),
           p1 := fun c t ht j a hj ha hn => ?_, p2 := fun a b h1 h2 => by omega, p3 := fun p hp => (by cases hp) }
  · obtain ⟨a, b, c, d⟩ := hb.name v t ht
    exact ⟨a, hb.lt ht, b, c, fun w hw => ⟨d w hw, .inr ⟨d w hw, hb.inn v t ht w hw⟩⟩⟩
  · rcases hor with e | ⟨_, e⟩
    · omega
    · exact e
  · exact ⟨fun ⟨a, _, _⟩ => ⟨a, fun p hp => by cases hp⟩, fun ⟨a, _⟩ => ⟨a, fun v h1 h2 => by omega, trivial⟩⟩
  · rw [inst_var] at hk ⊢
    rw [hb.sen_nm v] at hk ⊢
    cases hs : st0 (nm0 v) with
    | none => rw [hb.sen_open (hb.id v) hs] at hk; exact absurd rfl hk
    | some t =>
      obtain ⟨_, tm, tk, tv⟩ := hb.name _ t hs
      refine ⟨t, rfl, ?_, ?_, fun j hj => ?_⟩
      · rw [hσ _ t hs]; exact (inst_head tk).1.symm
      · rw [hσ _ t hs, (inst_head tk).2, List.length_map]
      · rw [hσ _ t hs, (inst_head tk).2, tget_map hj]
        have hmj := may_mem tm (tget_mem hj)
        by_cases h5 : (tget t.ks j).h.k = 5
        · have e := is_var hmj h5
          obtain ⟨x, hx⟩ : ∃ x, tget t.ks j = tyV x := ⟨_, e⟩
          refine .inl ⟨x, hx, x, tv x ?_, Eqv.refl _ _ _, by rw [hx]⟩
          rw [varsT_eq]
          exact List.mem_append_right _ (mem_varsK.2 ⟨_, tget_mem hj, by rw [hx, vars_var]; simp⟩)
        · exact .inr ⟨h5, hmj, fun w hw => tv w (by rw [varsT_eq]; exact List.mem_append_right _ (mem_varsK.2 ⟨_, tget_mem hj, hw⟩)), rfl⟩
  · obtain ⟨_, tm, tk, tv⟩ := hb.name v t ht
    exact ⟨v, hb.lt ht, (hb.name v t ht).1, by rw [inst_var, hσ v t ht, (inst_head tk).1]; exact tk⟩
  · rcases hor with e | e
    · exact absurd (by assumption) e
    · exact absurd rfl e
  · have := (hb.name c t ht).2.2.2 a (by rw [varsT_eq]; exact List.mem_append_right _ (mem_varsK.2 ⟨_, tget_mem hj, by rw [ha, vars_var]; simp⟩))
    omega
/-- The first row: all are to be what the first one is. -/
def row0 (vs : List Nat) : List (Nat × Nat) := vs.map fun v => (vs.headD 0, v)
/-- All of these are one. -/
def AllOne (l : List Ty) (θ : Nat → Ty) : Prop := ∀ s ∈ l, ∀ s' ∈ l, inst θ s = inst θ s'
theorem TrI.begin {n0 : Nat} {nm0 : Nat → Nat} {st0 : Nat → Option Ty} {g : Nat → Bool} {r0 : Nat → Nat} (hb : Bo n0 nm0 st0 g r0) (l : List Ty) (hl : ∀ s ∈ l, mayT s = true ∧ (∀ w ∈ varsT s, w < n0) ∧ (s.h.k ≠ 5 → ∀ w ∈ varsT s, g (nm0 w) = true)) (par pos : Nat → Nat) :
    TrI n0 nm0 st0 (senB n0 nm0 st0 r0) (opN n0 l) (AllOne l) (opN n0 l) nm0 (opF st0 n0 l) (opO tyV n0 l) (opP par 0 n0 l) (opJ pos n0 0 l) (row0 (opV n0 l)) [] g := by
  have hB : ∀ v, n0 ≤ v → nm0 v = v := fun v hv => (hb.out v hv).1
  have h0 := TrI.open_all hB 0 l n0 0 st0 tyV par pos (TrI.start hb (opN_le l n0) par pos) fun s hs => ⟨(hl s hs).1, fun hk w hw => ⟨(hl s hs).2.1 w hw, (hl s hs).2.2 hk w hw⟩⟩
  have hm : ∀ s ∈ l, mayT s = true := fun s hs => (hl s hs).1
  have hlen := opV_len l n0
  have hget : ∀ j, j < l.length → ∃ a, (opV n0 l)[j]? = some a := fun j hj => ⟨_, List.getElem?_eq_getElem (by omega)⟩
  have hlt : ∀ j a, (opV n0 l)[j]? = some a → a < opN n0 l := fun j a ha => by
    have hjl : j < l.length := by rw [← hlen]; exact (List.getElem?_eq_some_iff.1 ha).1
    rcases opV_get l st0 tyV par pos 0 0 n0 hm j a ha with e | ⟨_, _, q, _⟩
    · have := (hl _ (tget_mem hjl)).2.1 a (by rw [e, vars_var]; simp)
      have := opN_le l n0
      omega
    · exact q
  have hmem : ∀ v ∈ opV n0 l, v < opN n0 l := fun v hv => by
    obtain ⟨j, hj⟩ := List.mem_iff_getElem?.1 hv
    exact hlt j v hj
  refine h0.goal (fun θ hs hO => ?_) (fun p hp => ?_)
  · have hv : ∀ j a, (opV n0 l)[j]? = some a → θ a = inst θ (tget l j) := fun j a ha => by
      rcases opV_get l st0 tyV par pos 0 0 n0 hm j a ha with e | ⟨_, q1, q2, _, q3, _⟩
      · rw [e, inst_var]
      · rw [hO a q1 q2, q3]
    have hhd : ∀ j, j < l.length → ∃ b, (opV n0 l)[0]? = some b ∧ (opV n0 l).headD 0 = b := fun j hj => by
      obtain ⟨b, hb⟩ := hget 0 (by omega)
      refine ⟨b, hb, ?_⟩
      cases hvs : opV n0 l with
      | nil => rw [hvs] at hb; cases hb
      | cons x xs => rw [hvs] at hb; cases hb; rfl
    constructor
    · intro hA p hp
      obtain ⟨v, hv', rfl⟩ := List.mem_map.1 hp
      obtain ⟨j, hj⟩ := List.mem_iff_getElem?.1 hv'
      have hjl : j < l.length := by rw [← hlen]; exact (List.getElem?_eq_some_iff.1 hj).1
      obtain ⟨b, hb0, hb1⟩ := hhd j hjl
      show θ ((opV n0 l).headD 0) = θ v
      rw [hb1, hv 0 b hb0, hv j v hj]
      exact hA _ (tget_mem (by omega)) _ (tget_mem hjl)
    · intro hp s hs' s' hs''
      have one : ∀ s ∈ l, inst θ s = θ ((opV n0 l).headD 0) := fun s hs => by
        obtain ⟨j, hj, rfl⟩ := List.mem_iff_getElem.1 hs
        obtain ⟨a, ha⟩ := hget j hj
        have e := hv j a ha
        have e2 : tget l j = l[j] := by unfold tget; rw [List.getD_eq_getElem?_getD, List.getElem?_eq_getElem hj]; rfl
        rw [← e2, ← e]
        exact (hp (_, a) (List.mem_map.2 ⟨a, List.mem_iff_getElem?.2 ⟨j, ha⟩, rfl⟩)).symm
      rw [one s hs', one s' hs'']
  · obtain ⟨v, hv', rfl⟩ := List.mem_map.1 hp
    have h2 := hmem v hv'
    have h1 : (opV n0 l).headD 0 < opN n0 l := by
      cases hvs : opV n0 l with
      | nil => rw [hvs] at hv'; cases hv'
      | cons x xs => exact hmem x (by rw [hvs]; simp)
    exact ⟨h1, h2, h1, h2⟩
end Types
end Go.Proofs.YtjchplgapaeagaaDoor
namespace Go.Proofs.YtjchplgapaeagaaDoor
open Go.RowKit
set_option linter.unusedVariables false
set_option linter.unusedSimpArgs false
namespace Types

def pcells (a b : Nat) (q q' : Option Addr) (c c' : Nat) : List Value := tcells ⟨5, (a : Int)⟩ q 0 c ++ tcells ⟨5, (b : Int)⟩ q' 0 c'
theorem pcells_len (a b : Nat) (q q' : Option Addr) (c c' : Nat) : (pcells a b q q' c c').length = 6 := rfl
/-- A row of pairs, as cells. -/
inductive FlatR : List Value → List (Nat × Nat) → Prop where
  | nil : FlatR [] []
  | snoc {xs : List Value} {r : List (Nat × Nat)} (a b : Nat) (q q' : Option Addr) (c c' : Nat) : FlatR xs r → FlatR (xs ++ pcells a b q q' c c') (r ++ [(a, b)])
theorem FlatR.len {xs : List Value} {r : List (Nat × Nat)} (h : FlatR xs r) : xs.length = r.length * 6 := by
  induction h with
  | nil => rfl
  | snoc a b q q' c c' _ ih => rw [List.length_append, List.length_append, ih, pcells_len]; show _ = (_ + 1) * 6; omega
theorem FlatR.last {xs : List Value} {r : List (Nat × Nat)} (h : FlatR xs r) (hr : 0 < r.length) : ∃ ys r' a b q q' c c', xs = ys ++ pcells a b q q' c c' ∧ r = r' ++ [(a, b)] ∧ FlatR ys r' := by
  cases h with
  | nil => exact absurd hr (by decide)
  | snoc a b q q' c c' h => exact ⟨_, _, a, b, q, q', c, c', rfl, rfl, h⟩
/-- The last pair's cells; and the row without it. -/
theorem own_last {w : World} {base m c0 : Nat} {e : TypeId} {p : Option Addr} {ys : List Value} {a b : Nat} {q q' : Option Addr} {c c' : Nat} (h : w.ownsRow base e 6 (.slice p (m + 1) c0) (m + 1) (ys ++ pcells a b q q' c c')) :
    ∃ g, p = some ⟨g, 0, none⟩ ∧ base ≤ g ∧ w.ownsRow base e 6 (.slice p m c0) m ys ∧
      w.cell? ⟨g, m * 6, none⟩ = some (.int .u8 5) ∧ w.cell? ⟨g, m * 6 + 1, none⟩ = some (.int .i64 (a : Int)) ∧ w.cell? ⟨g, m * 6 + 2, none⟩ = some (.slice q 0 c) ∧
      w.cell? ⟨g, m * 6 + 3, none⟩ = some (.int .u8 5) ∧ w.cell? ⟨g, m * 6 + 4, none⟩ = some (.int .i64 (b : Int)) ∧ w.cell? ⟨g, m * 6 + 5, none⟩ = some (.slice q' 0 c') := by
  obtain ⟨g, rfl, hg⟩ := own_at h (by omega)
  have hl : ys.length = m * 6 := by have := h.1; rw [List.length_append, pcells_len] at this; omega
  have hp := own_pop h (m := m) (by omega) (by omega)
  rw [← hl, List.take_left] at hp
  have cell : ∀ j u, (pcells a b q q' c c')[j]? = some u → w.cell? ⟨g, m * 6 + j, none⟩ = some u := fun j u hj => row_cell h (by rw [List.getElem?_append_right (by omega), hl, Nat.add_sub_cancel_left]; exact hj)
  exact ⟨g, rfl, hg, hp, cell 0 _ rfl, cell 1 _ rfl, cell 2 _ rfl, cell 3 _ rfl, cell 4 _ rfl, cell 5 _ rfl⟩
/-- What is seen but for one block that isn't there yet. -/
def less (P : Nat → Bool) (N : Nat) (b : Nat) : Bool := P b && decide (b ≠ N)
theorem less_le {P : Nat → Bool} {N b : Nat} (h : less P N b = true) : P b = true := (Bool.and_eq_true_iff.1 h).1
theorem less_at (P : Nat → Bool) (N : Nat) : less P N N = false := by unfold less; simp
theorem less_of {P : Nat → Bool} {N b : Nat} (h : P b = true) (hN : b ≠ N) : less P N b = true := by unfold less; rw [h, decide_eq_true hN]; rfl
theorem less_no {P : Nat → Bool} {N b : Nat} (h : P b = false) : less P N b = false := by unfold less; rw [h]; rfl
theorem less_reads (P : Nat → Bool) {N : Nat} {w : World} (h : w.heap.size ≤ N) : Reads (veil P w) (veil (less P N) w) := veil_to fun b hb hp => ⟨less_of hp (by omega), rfl⟩
theorem less_back {P : Nat → Bool} {N : Nat} (w : World) : Reads (veil (less P N) w) (veil P w) := veil_to fun b _ hp => ⟨less_le hp, rfl⟩
theorem TBk.less {P : Nat → Bool} {w : World} {k : Bk} {u : Up} {n : Nat} {e : Nat → Option Ty} {g : Nat → Bool} (h : TBk P w k u n e g) {N : Nat} (hN : w.heap.size ≤ N) : TBk (less P N) w k u n e g :=
  h.reP (less_reads P hN) (less_no h.me.pb) (less_no h.me.ps) (less_no h.me.pi) fun x hx => ⟨less_no (h.upP x hx).1, less_no (h.upP x hx).2⟩
/-- The book stays, where what is seen by it and its own blocks do. -/
theorem TBk.kept {P : Nat → Bool} {w w' : World} {k : Bk} {u : Up} {n : Nat} {e : Nat → Option Ty} {g : Nat → Bool} (h : TBk P w k u n e g) {Q : Nat → Bool} (hk : Kp Q w w') (hQ : ∀ b, P b = true → Q b = true) (h1 : Q k.b = true ∧ Q k.s = true ∧ Q k.i = true) (h2 : ∀ x, u = some x → Q x.1.b = true ∧ Q x.1.s = true) : TBk P w' k u n e g := by
  refine ⟨h.me.keep hk hQ h1.1 h1.2.1 h1.2.2, ?_⟩
  have hu := h.up
  unfold UpOk at hu ⊢
  split
  · trivial
  · rename_i x
    exact ⟨hu.1.keep hk hQ (h2 x rfl).1 (h2 x rfl).2 (by rw [hu.2.1]; exact h1.2.2), hu.2⟩
end Types
end Go.Proofs.YtjchplgapaeagaaDoor
