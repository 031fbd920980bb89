/-Unification: mathematics: parts are opened; none stands within itself, if none does that was asked; what is kept. Unification: mathematics: what a trial tells the book under it; what can't be. Unification: mathematics: how many nodes a trial goes through, and how many are kept. -/
import Derived.Test.YtjchplgapaeagaaDoorGV02
namespace Go.Proofs.YtjchplgapaeagaaDoor
set_option linter.unusedVariables false
namespace Types

/-! ### Parts are opened -/
def opV : Nat → List Ty → List Nat
  | _, [] => []
  | N, t :: ts => if t.h.k = 5 then t.h.v.toNat :: opV N ts else N :: opV (N + 1) ts
def opN : Nat → List Ty → Nat
  | N, [] => N
  | N, t :: ts => if t.h.k = 5 then opN N ts else opN (N + 1) ts
def opF (f : Nat → Option Ty) : Nat → List Ty → Nat → Option Ty
  | _, [] => f
  | N, t :: ts => if t.h.k = 5 then opF f N ts else opF (upd f N (some t)) (N + 1) ts
def opO (O : Nat → Ty) : Nat → List Ty → Nat → Ty
  | _, [] => O
  | N, t :: ts => if t.h.k = 5 then opO O N ts else opO (upd O N t) (N + 1) ts
def opP (p : Nat → Nat) (c : Nat) : Nat → List Ty → Nat → Nat
  | _, [] => p
  | N, t :: ts => if t.h.k = 5 then opP p c N ts else opP (upd p N c) c (N + 1) ts
def opJ (p : Nat → Nat) : Nat → Nat → List Ty → Nat → Nat
  | _, _, [] => p
  | N, j, t :: ts => if t.h.k = 5 then opJ p N (j + 1) ts else opJ (upd p N j) (N + 1) (j + 1) ts
theorem opN_le : ∀ (ts : List Ty) (N : Nat), N ≤ opN N ts
  | [], N => Nat.le_refl _
  | t :: ts, N => by
    unfold opN
    split
    · exact opN_le ts N
    · have := opN_le ts (N + 1); omega
theorem opN_most : ∀ (ts : List Ty) (N : Nat), opN N ts ≤ N + ts.length
  | [], N => by unfold opN; simp
  | t :: ts, N => by
    unfold opN
    rw [List.length_cons]
    split
    · have := opN_most ts N; omega
    · have := opN_most ts (N + 1); omega
theorem opV_len : ∀ (ts : List Ty) (N : Nat), (opV N ts).length = ts.length
  | [], N => rfl
  | t :: ts, N => by
    unfold opV
    split
    · rw [List.length_cons, List.length_cons, opV_len ts N]
    · rw [List.length_cons, List.length_cons, opV_len ts (N + 1)]
theorem opF_old : ∀ (ts : List Ty) (f : Nat → Option Ty) (N v : Nat), v < N → opF f N ts v = f v
  | [], f, N, v, h => rfl
  | t :: ts, f, N, v, h => by
    unfold opF
    split
    · exact opF_old ts f N v h
    · rw [opF_old ts _ (N + 1) v (by omega), upd_other _ _ (by omega)]
theorem opO_old : ∀ (ts : List Ty) (f : Nat → Ty) (N v : Nat), v < N → opO f N ts v = f v
  | [], f, N, v, h => rfl
  | t :: ts, f, N, v, h => by
    unfold opO
    split
    · exact opO_old ts f N v h
    · rw [opO_old ts _ (N + 1) v (by omega), upd_other _ _ (by omega)]
theorem opP_old : ∀ (ts : List Ty) (f : Nat → Nat) (c N v : Nat), v < N → opP f c N ts v = f v
  | [], f, c, N, v, h => rfl
  | t :: ts, f, c, N, v, h => by
    unfold opP
    split
    · exact opP_old ts f c N v h
    · rw [opP_old ts _ c (N + 1) v (by omega), upd_other _ _ (by omega)]
theorem opJ_old : ∀ (ts : List Ty) (f : Nat → Nat) (N j v : Nat), v < N → opJ f N j ts v = f v
  | [], f, N, j, v, h => rfl
  | t :: ts, f, N, j, v, h => by
    unfold opJ
    split
    · exact opJ_old ts f N (j + 1) v h
    · rw [opJ_old ts _ (N + 1) (j + 1) v (by omega), upd_other _ _ (by omega)]
/-- Each variable, and what it was opened for. -/
theorem opV_get : ∀ (ts : List Ty) (f : Nat → Option Ty) (O : Nat → Ty) (par pos : Nat → Nat) (c j0 N : Nat), (∀ s ∈ ts, mayT s = true) → ∀ j a, (opV N ts)[j]? = some a →
    (tget ts j = tyV a) ∨ ((tget ts j).h.k ≠ 5 ∧ N ≤ a ∧ a < opN N ts ∧ opF f N ts a = some (tget ts j) ∧ opO O N ts a = tget ts j ∧ opP par c N ts a = c ∧ opJ pos N j0 ts a = j0 + j)
  | [], f, O, par, pos, c, j0, N, hm, j, a, h => by simp [opV] at h
  | t :: ts, f, O, par, pos, c, j0, N, hm, j, a, h => by
    by_cases hk : t.h.k = 5
    · unfold opV at h
      rw [if_pos hk] at h
      unfold opN opF opO opP opJ
      rw [if_pos hk, if_pos hk, if_pos hk, if_pos hk, if_pos hk]
      cases j with
      | zero =>
        rw [List.getElem?_cons_zero] at h
        cases h
        exact .inl (is_var (hm t (by simp)) hk)
      | succ j =>
        rw [List.getElem?_cons_succ] at h
        have := opV_get ts f O par pos c (j0 + 1) N (fun s hs => hm s (by simp [hs])) j a h
        rw [show j0 + (j + 1) = j0 + 1 + j by omega]
        exact this
    · unfold opV at h
      rw [if_neg hk] at h
      unfold opN opF opO opP opJ
      rw [if_neg hk, if_neg hk, if_neg hk, if_neg hk, if_neg hk]
      cases j with
      | zero =>
        rw [List.getElem?_cons_zero] at h
        cases h
        refine .inr ⟨hk, Nat.le_refl _, by have := opN_le ts (N + 1); omega, ?_, ?_, ?_, ?_⟩
        · rw [opF_old _ _ _ _ (by omega), upd_same]; rfl
        · rw [opO_old _ _ _ _ (by omega), upd_same]; rfl
        · rw [opP_old _ _ _ _ _ (by omega), upd_same]
        · rw [opJ_old _ _ _ _ _ (by omega), upd_same]; rfl
      | succ j =>
        rw [List.getElem?_cons_succ] at h
        rcases opV_get ts (upd f N (some t)) (upd O N t) (upd par N c) (upd pos N j0) c (j0 + 1) (N + 1) (fun s hs => hm s (by simp [hs])) j a h with h | ⟨h0, h1, h2, h3, h4, h5, h6⟩
        · exact .inl h
        · exact .inr ⟨h0, by omega, h2, h3, h4, h5, by rw [h6]; omega⟩
section
variable {n0 : Nat} {nm0 : Nat → Nat} {st0 : Nat → Option Ty} {σ0 : Nat → Ty} {n1 : Nat} {G : (Nat → Ty) → Prop}
    {nm : Nat → Nat} {row : List (Nat × Nat)} {joined : List Nat} {g : Nat → Bool}
theorem TrI.open_all (hB : ∀ v, n0 ≤ v → nm0 v = v) (c : Nat) : ∀ (ts : List Ty) (N j0 : Nat) (st : Nat → Option Ty) (O : Nat → Ty) (par pos : Nat → Nat),
    TrI n0 nm0 st0 σ0 n1 G N nm st O par pos row joined g → (∀ s ∈ ts, mayT s = true ∧ (s.h.k ≠ 5 → ∀ w ∈ varsT s, w < n0 ∧ g (nm0 w) = true)) →
    TrI n0 nm0 st0 σ0 n1 G (opN N ts) nm (opF st N ts) (opO O N ts) (opP par c N ts) (opJ pos N j0 ts) row joined g
  | [], N, j0, st, O, par, pos, h, hs => h
  | t :: ts, N, j0, st, O, par, pos, h, hs => by
    unfold opN opF opO opP opJ
    by_cases hk : t.h.k = 5
    · rw [if_pos hk, if_pos hk, if_pos hk, if_pos hk, if_pos hk]
      exact TrI.open_all hB c ts N (j0 + 1) st O par pos h fun s hs' => hs s (by simp [hs'])
    · rw [if_neg hk, if_neg hk, if_neg hk, if_neg hk, if_neg hk]
      exact TrI.open_all hB c ts (N + 1) (j0 + 1) _ _ _ _ (h.opens hB (hs t (by simp)).1 hk ((hs t (by simp)).2 hk) c j0) fun s hs' => hs s (by simp [hs'])
/-- What is to be one is told. -/
theorem TrI.goal {N : Nat} {st : Nat → Option Ty} {O : Nat → Ty} {par pos : Nat → Nat} (h : TrI n0 nm0 st0 σ0 n1 (fun _ => True) N nm st O par pos [] joined g) {G' : (Nat → Ty) → Prop} {row' : List (Nat × Nat)}
    (hG : ∀ θ, SolA nm0 st0 θ → (∀ v, n0 ≤ v → v < N → θ v = inst θ (O v)) → (G' θ ↔ ∀ p ∈ row', θ p.1 = θ p.2)) (hr : ∀ p ∈ row', p.1 < N ∧ p.2 < N ∧ p.1 < n1 ∧ p.2 < n1) :
    TrI n0 nm0 st0 σ0 n1 G' N nm st O par pos row' joined g := by
  refine { h with sol := fun θ => ?_, rowlt := fun p hp => ⟨(hr p hp).1, (hr p hp).2.1⟩, rowk := fun p hp => .inr (hr p hp).2.2, p3 := fun p hp a => ?_, ag := fun v hv hd => ?_ }
  · constructor
    · rintro ⟨a, b, c⟩
      exact ⟨((h.sol θ).1 ⟨a, b, trivial⟩).1, (hG θ a b).1 c⟩
    · rintro ⟨a, b⟩
      obtain ⟨c, d, _⟩ := (h.sol θ).2 ⟨a, fun p hp => by cases hp⟩
      exact ⟨c, d, (hG θ c d).2 b⟩
  · obtain ⟨t, x1, x2, x3, x4⟩ := h.ag v hv hd
    exact ⟨t, x1, x2, x3, fun j hj => (x4 j hj).grow (Nat.le_refl _) (fun _ _ => rfl) fun u u' he c c1 c2 => he c c1 fun p hp => by cases hp⟩
  · have := (hr p hp).2.2.1; omega
end

/-! ### Variables of what was put in -/
theorem vars_inst {θ : Nat → Ty} {w : Nat} : ∀ t, mayT t = true → (w ∈ varsT (inst θ t) ↔ ∃ u ∈ varsT t, w ∈ varsT (θ u)) := by
  refine ty_rec fun t ih hm => ?_
  by_cases hk : t.h.k = 5
  · have e := is_var hm hk
    rw [e, inst_var, vars_var]
    simp
  · rw [inst_eq, if_neg hk, varsT_eq, if_neg (show ¬ (Ty.node t.h (instK θ t.ks)).h.k = 5 from hk), List.nil_append, varsT_eq t, if_neg hk, List.nil_append]
    rw [show (Ty.node t.h (instK θ t.ks)).ks = instK θ t.ks from rfl, instK_map]
    constructor
    · intro h
      obtain ⟨x, hx, hwx⟩ := mem_varsK.1 h
      obtain ⟨y, hy, rfl⟩ := List.mem_map.1 hx
      obtain ⟨u, hu, hwu⟩ := (ih y hy (may_mem hm hy)).1 hwx
      exact ⟨u, mem_varsK.2 ⟨y, hy, hu⟩, hwu⟩
    · rintro ⟨u, hu, hwu⟩
      obtain ⟨y, hy, huy⟩ := mem_varsK.1 hu
      exact mem_varsK.2 ⟨_, List.mem_map_of_mem hy, (ih y hy (may_mem hm hy)).2 ⟨u, huy, hwu⟩⟩
theorem varsT_ks {t : Ty} (h : t.h.k ≠ 5) : varsT t = varsK t.ks := by rw [varsT_eq, if_neg h, List.nil_append]
/-- The least of some numbers. -/
theorem least {P : Nat → Prop} (h : ∃ m, P m) : ∃ m, P m ∧ ∀ k, P k → m ≤ k := by
  obtain ⟨m, hm⟩ := h
  induction m using Nat.strongRecOn with
  | _ m ih =>
    by_cases hx : ∃ k, k < m ∧ P k
    · obtain ⟨k, hk, hp⟩ := hx
      exact ih k hk hp
    · exact ⟨m, hm, fun k hp => Nat.le_of_not_lt fun hk => hx ⟨k, hk, hp⟩⟩

section
variable {n0 : Nat} {nm0 : Nat → Nat} {st0 : Nat → Option Ty} {r0 : Nat → Nat} {n1 : Nat} {G : (Nat → Ty) → Prop}
    {N : Nat} {nm : Nat → Nat} {st : Nat → Option Ty} {O : Nat → Ty} {par pos : Nat → Nat} {joined : List Nat} {g : Nat → Bool}
/-- What stands strictly within is marked. -/
theorem TrI.inn {row : List (Nat × Nat)} {σ0 : Nat → Ty} (h : TrI n0 nm0 st0 σ0 n1 G N nm st O par pos row joined g) (hb : Bo n0 nm0 st0 g r0) (hσ : σ0 = senB n0 nm0 st0 r0) :
    ∀ v, v < N → ∀ w ∈ varsK (inst σ0 (O v)).ks, g w = true := by
  subst hσ
  intro v hv w hw
  rcases Nat.lt_or_ge v n0 with hv0 | hv0
  · rw [h.und v hv0, inst_var] at hw
    exact hb.sen_inn v w hw
  · obtain ⟨hm, hk, hw0⟩ := h.own v hv0 hv
    have hw2 : w ∈ varsT (inst (senB n0 nm0 st0 r0) (O v)) := by rw [varsT_eq]; exact List.mem_append_right _ hw
    obtain ⟨u, hu, hwu⟩ := (vars_inst _ hm).1 hw2
    by_cases hku : (senB n0 nm0 st0 r0 u).h.k = 5
    · have e := is_var (hb.isSen.may u) hku
      have e2 := (hb.sen_var e).1
      rw [e, vars_var, List.mem_singleton] at hwu
      rw [hwu, e2]
      exact (hw0 u hu).2
    · rw [varsT_ks hku] at hwu
      exact hb.sen_inn u w hwu
/-- None stands within itself, if none does that is met from where it was asked. -/
theorem TrI.acyclic {σ0 : Nat → Ty} (h : TrI n0 nm0 st0 σ0 n1 G N nm st O par pos [] joined g) (hb : Bo n0 nm0 st0 g r0) (hσ : σ0 = senB n0 nm0 st0 r0) (R : Nat → Prop) (q : Nat → Nat) (Q : Nat) (hq : ∀ c, q c < Q)
    (hR : ∀ v ∈ joined, v < n0 → st0 v = none → g v = true → R (nm v)) (hE : ∀ c t, R c → st c = some t → ∀ w ∈ varsT t, R (nm w) ∧ q (nm w) < q c) :
    ∃ r : Nat → Nat, ∀ v t, st v = some t → ∀ w ∈ varsT t, r (nm w) < r v := by
  have hinn := h.inn hb hσ
  have hL : ∀ c, ∃ m, (∀ t, st c = some t → (∃ u, u < N ∧ nm u = c ∧ (inst σ0 (O u)).h.k ≠ 5 ∧ wt (inst σ0 (O u)) = m) ∧ ∀ u, u < N → nm u = c → (inst σ0 (O u)).h.k ≠ 5 → m ≤ wt (inst σ0 (O u))) := by
    intro c
    cases hs : st c with
    | none => exact ⟨0, fun t ht => by cases ht⟩
    | some t =>
      obtain ⟨u, u1, u2, u3⟩ := h.cl c t hs
      obtain ⟨m, m1, m2⟩ := least (P := fun m => ∃ u, u < N ∧ nm u = c ∧ (inst σ0 (O u)).h.k ≠ 5 ∧ wt (inst σ0 (O u)) = m) ⟨_, u, u1, u2, u3, rfl⟩
      exact ⟨m, fun t' _ => ⟨m1, fun u a b c' => m2 _ ⟨u, a, b, c', rfl⟩⟩⟩
  obtain ⟨M, hM⟩ := Classical.axiomOfChoice hL
  classical
  refine ⟨fun c => if st c = none then 0 else if R c then q c + 1 else Q + 1 + M c, fun v t hs w hw => ?_⟩
  have hvs : ¬ st v = none := by rw [hs]; exact Option.some_ne_none _
  simp only [if_neg hvs]
  by_cases hw0 : st (nm w) = none
  · rw [if_pos hw0]
    by_cases hRv : R v
    · rw [if_pos hRv]; omega
    · rw [if_neg hRv]; omega
  rw [if_neg hw0]
  by_cases hRv : R v
  · obtain ⟨e1, e2⟩ := hE v t hRv hs w hw
    rw [if_pos hRv, if_pos e1]; omega
  rw [if_neg hRv]
  by_cases hRw : R (nm w)
  · rw [if_pos hRw]; have := hq (nm w); omega
  rw [if_neg hRw]
  obtain ⟨⟨u, u1, u2, u3, u4⟩, _⟩ := hM v t hs
  obtain ⟨t', t1, t2, t3, t4⟩ := h.ag u u1 u3
  rw [u2, hs] at t1
  cases t1
  obtain ⟨_, _, tm, tk, _⟩ := h.name v t hs
  have um : mayT (inst σ0 (O u)) = true := by
    subst hσ
    refine inst_may _ ?_ fun x _ => hb.isSen.may x
    rcases Nat.lt_or_ge u n0 with hu | hu
    · rw [h.und u hu]; exact may_V u
    · exact (h.own u hu u1).1
  -- one of its name, that is less
  have hless : ∃ u', u' < N ∧ nm u' = nm w ∧ wt (inst σ0 (O u')) < wt (inst σ0 (O u)) ∧ ∀ x ∈ varsT (inst σ0 (O u')), x ∈ varsK (inst σ0 (O u)).ks := by
    rw [varsT_ks tk] at hw
    obtain ⟨s, hs', hws⟩ := mem_varsK.1 hw
    obtain ⟨j, hj, rfl⟩ := List.mem_iff_getElem.1 hs'
    have ej : t.ks[j] = tget t.ks j := by have := tget_at hj; rw [List.getElem?_eq_getElem hj] at this; exact Option.some.inj this
    rw [ej] at hws
    have hjd : j < (inst σ0 (O u)).ks.length := by omega
    have hwd : wt (tget (inst σ0 (O u)).ks j) < wt (inst σ0 (O u)) := by
      have a := wts_get hjd
      have b := wt_ks (inst σ0 (O u))
      omega
    have hvd : ∀ x ∈ varsT (tget (inst σ0 (O u)).ks j), x ∈ varsK (inst σ0 (O u)).ks := fun x hx => mem_varsK.2 ⟨_, tget_mem hjd, hx⟩
    rcases t4 j hj with ⟨y, e, u', p1, p2, p3⟩ | ⟨p1, p2, p3, p4⟩
    · rw [e, vars_var, List.mem_singleton] at hws
      subst hws
      exact ⟨u', p1, (Eqv.names h.id p2).symm, by rw [p3]; exact hwd, fun x hx => hvd x (by rw [← p3]; exact hx)⟩
    · have hwn := p3 w hws
      refine ⟨w, by have := h.n01; omega, rfl, ?_, fun x hx => hvd x ?_⟩
      · rw [h.und w hwn, inst_var]
        have := (wt_occ (θ := σ0) _ p2 hws).1
        rw [p4] at this
        omega
      · rw [h.und w hwn, inst_var] at hx
        rw [← p4]
        exact (vars_inst _ p2).2 ⟨w, hws, hx⟩
  obtain ⟨u', v1, v2, v3, v4⟩ := hless
  by_cases hk' : (inst σ0 (O u')).h.k = 5
  · exfalso
    have hu0 : u' < n0 := by
      rcases Nat.lt_or_ge u' n0 with hx | hx
      · exact hx
      · exact absurd hk' (by rw [(inst_head (h.own u' hx v1).2.1).1]; exact (h.own u' hx v1).2.1)
    have um' : mayT (inst σ0 (O u')) = true := by
      subst hσ
      rw [h.und u' hu0, inst_var]; exact hb.isSen.may _
    have e := is_var um' hk'
    obtain ⟨x, ex⟩ : ∃ x, inst σ0 (O u') = tyV x := ⟨_, e⟩
    have hgx : g x = true := hinn u u1 x (v4 x (by rw [ex, vars_var]; simp))
    rw [h.und u' hu0, inst_var, hσ] at ex
    obtain ⟨q1, q2⟩ := hb.sen_var ex
    have hxn : x < n0 := by rw [q1]; exact hb.nm_lt hu0
    have hnx : nm x = nm w := by rw [q1, h.ref, v2]
    have hx0 : nm0 x = x := by rw [q1]; exact hb.id _
    refine hRw ?_
    rw [← hnx]
    refine hR x (h.jo x hxn hx0 ?_) hxn q2 hgx
    by_cases e : nm x = x
    · refine .inr ?_
      rw [q2, ← e, hnx]; exact hw0
    · exact .inl e
  · obtain ⟨t'', ht''⟩ := Option.ne_none_iff_exists'.1 hw0
    have := (hM (nm w) t'' ht'').2 u' v1 v2 hk'
    omega
end
end Types
end Go.Proofs.YtjchplgapaeagaaDoor
namespace Go.Proofs.YtjchplgapaeagaaDoor
set_option linter.unusedVariables false
namespace Types

/-- What stands in a variable's place, once the trial's own ones are gone. -/
def omF (n0 : Nat) (nm : Nat → Nat) (st : Nat → Option Ty) : Nat → Nat → Ty
  | 0, v => tyV (nm v)
  | k + 1, v => if nm v < n0 then tyV (nm v) else match st (nm v) with
    | none => tyV (nm v)
    | some t => inst (omF n0 nm st k) t
def om (n0 : Nat) (nm : Nat → Nat) (st : Nat → Option Ty) (r : Nat → Nat) (v : Nat) : Ty := omF n0 nm st (r (nm v) + 1) v
def nmK (n0 : Nat) (nm : Nat → Nat) (v : Nat) : Nat := if v < n0 then nm v else v
def stK (n0 : Nat) (nm : Nat → Nat) (st : Nat → Option Ty) (r : Nat → Nat) (v : Nat) : Option Ty := if v < n0 then (st v).map (inst (om n0 nm st r)) else none
section
variable {n0 : Nat} {nm : Nat → Nat} {st : Nat → Option Ty} {r : Nat → Nat}
theorem omF_stay (hid : ∀ v, nm (nm v) = nm v) (ha : ∀ v t, st v = some t → ∀ w ∈ varsT t, r (nm w) < r v) : ∀ k v, r (nm v) < k → omF n0 nm st (k + 1) v = omF n0 nm st k v := by
  intro k
  induction k with
  | zero => intro v h; omega
  | succ k ih =>
    intro v h
    conv => lhs; unfold omF
    conv => rhs; unfold omF
    split
    · rfl
    · split
      · rfl
      · rename_i t hs
        exact inst_congr t fun w hw => ih w (by have := ha _ t hs w hw; omega)
theorem omF_om (hid : ∀ v, nm (nm v) = nm v) (ha : ∀ v t, st v = some t → ∀ w ∈ varsT t, r (nm w) < r v) (k v : Nat) (h : r (nm v) < k) : omF n0 nm st k v = om n0 nm st r v := by
  obtain ⟨d, rfl⟩ : ∃ d, k = r (nm v) + 1 + d := ⟨k - (r (nm v) + 1), by omega⟩
  clear h
  induction d with
  | zero => rfl
  | succ d ih => rw [← ih]; exact omF_stay hid ha (r (nm v) + 1 + d) v (by omega)
theorem om_under {v : Nat} (h : nm v < n0) : om n0 nm st r v = tyV (nm v) := by unfold om omF; rw [if_pos h]
theorem om_own (hid : ∀ v, nm (nm v) = nm v) (ha : ∀ v t, st v = some t → ∀ w ∈ varsT t, r (nm w) < r v) {v : Nat} {t : Ty} (h : ¬ nm v < n0) (hs : st (nm v) = some t) : om n0 nm st r v = inst (om n0 nm st r) t := by
  unfold om
  conv => lhs; unfold omF
  rw [if_neg h, hs]
  exact inst_congr t fun w hw => omF_om hid ha _ _ (ha _ t hs w hw)
theorem om_open {v : Nat} (hs : st (nm v) = none) : om n0 nm st r v = tyV (nm v) := by
  unfold om omF
  rw [hs]
  split <;> rfl
end
section
variable {n0 : Nat} {nm0 : Nat → Nat} {st0 : Nat → Option Ty} {r0 : Nat → Nat} {σ0 : Nat → Ty} {n1 : Nat} {G : (Nat → Ty) → Prop}
    {N : Nat} {nm : Nat → Nat} {st : Nat → Option Ty} {O : Nat → Ty} {par pos : Nat → Nat} {joined : List Nat} {g : Nat → Bool} {row : List (Nat × Nat)} {r : Nat → Nat}
theorem TrI.own_shut (h : TrI n0 nm0 st0 σ0 n1 G N nm st O par pos row joined g) {v : Nat} (h0 : n0 ≤ v) (hv : v < N) : ∃ t, st (nm v) = some t := by
  obtain ⟨t, ht, _⟩ := h.ag v hv (by rw [(inst_head (h.own v h0 hv).2.1).1]; exact (h.own v h0 hv).2.1)
  exact ⟨t, ht⟩
/-- Of a variable of the book: it stands for nothing of the trial's own. -/
theorem TrI.om_vars (h : TrI n0 nm0 st0 σ0 n1 G N nm st O par pos row joined g) (ha : ∀ v t, st v = some t → ∀ w ∈ varsT t, r (nm w) < r v) :
    ∀ v, v < N → mayT (om n0 nm st r v) = true ∧ ∀ w ∈ varsT (om n0 nm st r v), w < n0 ∧ nm w = w ∧ r w ≤ r (nm v) ∧ ((n1 ≤ v ∨ (v < n0 ∧ g (nm0 v) = true)) → g w = true) := by
  refine rank_rec (fun v => r (nm v)) fun v ih => ?_
  intro hv
  by_cases hn : nm v < n0
  · rw [om_under hn]
    refine ⟨may_V _, fun w hw => ?_⟩
    rw [vars_var, List.mem_singleton] at hw
    subst hw
    exact ⟨hn, h.id v, Nat.le_refl _, fun hk => h.h1 v hv hk hn⟩
  · have hvn : n0 ≤ nm v := by omega
    obtain ⟨t, hs⟩ := h.own_shut hvn (Nat.lt_of_le_of_lt (h.le v) hv)
    rw [h.id] at hs
    obtain ⟨_, _, tm, tk, tv⟩ := h.name _ t hs
    rw [om_own h.id ha hn hs]
    have hu := fun u (hu : u ∈ varsT t) => ih u (ha _ t hs u hu) (tv u hu).1
    refine ⟨inst_may t tm fun u hu' => (hu u hu').1, fun w hw => ?_⟩
    obtain ⟨u, hu', hwu⟩ := (vars_inst t tm).1 hw
    obtain ⟨a, b, c, d⟩ := (hu u hu').2 w hwu
    exact ⟨a, b, by have := ha _ t hs u hu'; omega, fun _ => d (tv u hu').2⟩
/-- What solves the book solves the trial, with what its own ones were opened for. -/
def extO (n0 N : Nat) (O : Nat → Ty) (θ : Nat → Ty) (v : Nat) : Ty := if v < n0 then θ v else if v < N then inst θ (O v) else θ v
theorem sol_same {n : Nat} {nm : Nat → Nat} {st : Nat → Option Ty} {g : Nat → Bool} {r : Nat → Nat} (hb : Bo n nm st g r) {θ ψ : Nat → Ty} (h : ∀ v, v < n → θ v = ψ v) : SolA nm st θ ↔ SolA nm st ψ := by
  have one : ∀ {θ ψ : Nat → Ty}, (∀ v, v < n → θ v = ψ v) → SolA nm st θ → SolA nm st ψ := by
    rintro θ ψ h ⟨a, b⟩
    refine ⟨fun v => ?_, fun v t ht => ?_⟩
    · rcases Nat.lt_or_ge v n with hv | hv
      · rw [← h v hv, ← h _ (hb.nm_lt hv)]; exact a v
      · rw [(hb.out v hv).1]
    · rw [← h v (hb.lt ht), b v t ht]
      exact inst_congr t fun w hw => h w ((hb.name v t ht).2.2.2 w hw)
  exact ⟨one h, one fun v hv => (h v hv).symm⟩
theorem TrI.ext (h : TrI n0 nm0 st0 σ0 n1 G N nm st O par pos row joined g) (hb : Bo n0 nm0 st0 g r0) (hG : ∀ θ ψ : Nat → Ty, (∀ v, v < n0 → θ v = ψ v) → G θ → G ψ) {θ : Nat → Ty} (h1 : SolA nm0 st0 θ) (h2 : G θ) :
    SolA nm st (extO n0 N O θ) ∧ ∀ p ∈ row, extO n0 N O θ p.1 = extO n0 N O θ p.2 := by
  have he : ∀ v, v < n0 → θ v = extO n0 N O θ v := fun v hv => by unfold extO; rw [if_pos hv]
  refine (h.sol _).1 ⟨(sol_same hb he).1 h1, fun v a b => ?_, hG _ _ he h2⟩
  conv => lhs; unfold extO
  rw [if_neg (by omega), if_pos b]
  exact inst_congr _ fun w hw => he w ((h.own v a b).2.2 w hw).1
/-- What the trial can't be, the book can't. -/
theorem TrI.cant (h : TrI n0 nm0 st0 σ0 n1 G N nm st O par pos row joined g) (hb : Bo n0 nm0 st0 g r0) (hG : ∀ θ ψ : Nat → Ty, (∀ v, v < n0 → θ v = ψ v) → G θ → G ψ) (hno : ∀ θ, SolA nm st θ → (∀ p ∈ row, θ p.1 = θ p.2) → False) :
    ∀ θ, ¬ (SolA nm0 st0 θ ∧ G θ) := fun θ ⟨h1, h2⟩ => by
  obtain ⟨a, b⟩ := h.ext hb hG h1 h2
  exact hno _ a b
/-- Types of two kinds are never one. -/
theorem TrI.kinds (h : TrI n0 nm0 st0 σ0 n1 G N nm st O par pos row joined g) {x y : Nat} {t o : Ty} (hp : (x, y) ∈ row) (ht : st (nm x) = some t) (ho : st (nm y) = some o) (hk : t.h.k ≠ o.h.k) (θ : Nat → Ty) (h1 : SolA nm st θ) (h2 : ∀ p ∈ row, θ p.1 = θ p.2) : False := by
  have e : θ x = θ y := h2 _ hp
  rw [h1.1 x, h1.1 y, h1.2 _ t ht, h1.2 _ o ho] at e
  have a := (inst_head (θ := θ) (h.name _ t ht).2.2.2.1).1
  have b := (inst_head (θ := θ) (h.name _ o ho).2.2.2.1).1
  rw [e] at a
  exact hk (by rw [← a, b])
/-- None stands within itself: or else there is none for it. -/
theorem cycle_no {nm : Nat → Nat} {st : Nat → Option Ty} (hm : ∀ v t, st v = some t → mayT t = true ∧ t.h.k ≠ 5) (Z : List Nat) (hne : Z ≠ []) (hZ : ∀ c ∈ Z, ∃ p ∈ Z, ∃ t, st p = some t ∧ ∃ u ∈ varsT t, nm u = c) (θ : Nat → Ty) (h : SolA nm st θ) : False := by
  have hmax : ∀ Z : List Nat, Z ≠ [] → ∃ c ∈ Z, ∀ d ∈ Z, wt (θ d) ≤ wt (θ c) := by
    intro Z
    induction Z with
    | nil => intro h; exact absurd rfl h
    | cons a Z ih =>
      intro _
      by_cases hZ : Z = []
      · subst hZ; exact ⟨a, by simp, fun d hd => by simp at hd; rw [hd]; exact Nat.le_refl _⟩
      · obtain ⟨c, hc, hcm⟩ := ih hZ
        by_cases hac : wt (θ c) ≤ wt (θ a)
        · refine ⟨a, by simp, fun d hd => ?_⟩
          rcases List.mem_cons.1 hd with rfl | hd
          · exact Nat.le_refl _
          · exact Nat.le_trans (hcm d hd) hac
        · refine ⟨c, by simp [hc], fun d hd => ?_⟩
          rcases List.mem_cons.1 hd with rfl | hd
          · omega
          · exact hcm d hd
  obtain ⟨c, hc, hcm⟩ := hmax Z hne
  obtain ⟨p, hp, t, ht, u, hu, e⟩ := hZ c hc
  have h1 := hcm p hp
  have h2 := (wt_occ (θ := θ) t (hm p t ht).1 hu).2 (hm p t ht).2
  rw [← h.2 p t ht, h.1 u, e] at h2
  omega
/-- WHAT IS KEPT. -/
theorem TrI.keep (h : TrI n0 nm0 st0 σ0 n1 G N nm st O par pos [] joined g) (hb : Bo n0 nm0 st0 g r0) (hG : ∀ θ ψ : Nat → Ty, (∀ v, v < n0 → θ v = ψ v) → G θ → G ψ)
    (ha : ∀ v t, st v = some t → ∀ w ∈ varsT t, r (nm w) < r v) :
    Bo n0 (nmK n0 nm) (stK n0 nm st r) g r ∧ ∀ θ, SolA (nmK n0 nm) (stK n0 nm st r) θ ↔ SolA nm0 st0 θ ∧ G θ := by
  have hN := h.n01
  have hov := h.om_vars ha
  have hst : ∀ v t, stK n0 nm st r v = some t → v < n0 ∧ ∃ s, st v = some s ∧ t = inst (om n0 nm st r) s := fun v t ht => by
    unfold stK at ht
    split at ht
    · rename_i hv
      cases hs : st v with
      | none => rw [hs] at ht; cases ht
      | some s => rw [hs] at ht; exact ⟨hv, s, rfl, (Option.some.inj ht).symm⟩
    · cases ht
  have hbo : Bo n0 (nmK n0 nm) (stK n0 nm st r) g r := by
    refine ⟨fun v => ?_, fun v => ?_, fun v hv => ?_, fun v t ht => ?_, fun v t ht w hw => ?_, fun v t ht w hw => ?_⟩
    · unfold nmK; split
      · exact h.le v
      · exact Nat.le_refl _
    · unfold nmK
      by_cases hv : v < n0
      · rw [if_pos hv, if_pos (Nat.lt_of_le_of_lt (h.le v) hv), h.id]
      · rw [if_neg hv, if_neg hv]
    · unfold nmK stK; rw [if_neg (by omega), if_neg (by omega)]; exact ⟨rfl, rfl⟩
    · obtain ⟨hv, s, hs, rfl⟩ := hst v t ht
      obtain ⟨sn, _, sm, sk, sv⟩ := h.name v s hs
      refine ⟨by unfold nmK; rw [if_pos hv]; exact sn, inst_may s sm fun u hu => (hov u (sv u hu).1).1, by rw [(inst_head sk).1]; exact sk, fun w hw => ?_⟩
      obtain ⟨u, hu, hwu⟩ := (vars_inst s sm).1 hw
      exact ((hov u (sv u hu).1).2 w hwu).1
    · obtain ⟨hv, s, hs, rfl⟩ := hst v t ht
      obtain ⟨sn, _, sm, sk, sv⟩ := h.name v s hs
      obtain ⟨u, hu, hwu⟩ := (vars_inst s sm).1 hw
      obtain ⟨a, b, c, d⟩ := (hov u (sv u hu).1).2 w hwu
      have := ha v s hs u hu
      unfold nmK; rw [if_pos a, b]; omega
    · obtain ⟨hv, s, hs, rfl⟩ := hst v t ht
      obtain ⟨sn, _, sm, sk, sv⟩ := h.name v s hs
      obtain ⟨u, hu, hwu⟩ := (vars_inst s sm).1 hw
      obtain ⟨a, b, c, d⟩ := (hov u (sv u hu).1).2 w hwu
      unfold nmK; rw [if_pos a, b]
      exact d (sv u hu).2
  refine ⟨hbo, fun θ => ?_⟩
  constructor
  · rintro ⟨s1, s2⟩
    -- of a solution of what is kept, one of the trial
    have e : ∀ v, (if v < n0 then θ v else inst θ (om n0 nm st r v)) = inst θ (om n0 nm st r v) := fun v => by
      by_cases hv : v < n0
      · rw [if_pos hv, om_under (Nat.lt_of_le_of_lt (h.le v) hv), inst_var, s1 v]
        unfold nmK; rw [if_pos hv]
      · rw [if_neg hv]
    have hs : SolA nm st (fun v => if v < n0 then θ v else inst θ (om n0 nm st r v)) := by
      refine ⟨fun v => ?_, fun v t ht => ?_⟩
      · show (if v < n0 then θ v else _) = (if nm v < n0 then θ (nm v) else _)
        rw [e, e]
        congr 1
        unfold om
        by_cases hv : nm v < n0
        · rw [h.id]; unfold omF; rw [h.id]
        · rw [h.id]; unfold omF; rw [h.id]
      · show (if v < n0 then θ v else _) = _
        obtain ⟨sn, sN, sm, sk, sv⟩ := h.name v t ht
        have e2 : inst (fun v => if v < n0 then θ v else inst θ (om n0 nm st r v)) t = inst θ (inst (om n0 nm st r) t) := by
          rw [inst_inst]
          exact inst_congr t fun w _ => e w
        rw [e2]
        by_cases hv : v < n0
        · rw [if_pos hv]
          exact s2 v _ (by unfold stK; rw [if_pos hv, ht]; rfl)
        · rw [if_neg hv, om_own h.id ha (by rw [sn]; exact hv) (by rw [sn]; exact ht)]
    obtain ⟨q1, _, q3⟩ := (h.sol _).2 ⟨hs, fun p hp => by cases hp⟩
    have hl : ∀ v, v < n0 → (fun v => if v < n0 then θ v else inst θ (om n0 nm st r v)) v = θ v := fun v hv => if_pos hv
    exact ⟨(sol_same hb hl).1 q1, hG _ _ hl q3⟩
  · rintro ⟨s1, s2⟩
    obtain ⟨⟨q1, q2⟩, _⟩ := h.ext hb hG s1 s2
    have hl : ∀ v, v < n0 → extO n0 N O θ v = θ v := fun v hv => by unfold extO; rw [if_pos hv]
    have e : ∀ v, v < N → extO n0 N O θ v = inst θ (om n0 nm st r v) := by
      refine rank_rec (fun v => r (nm v)) fun v ih => ?_
      intro hv
      rw [q1 v]
      by_cases hn : nm v < n0
      · rw [om_under hn, inst_var, hl _ hn]
      · have hvn : n0 ≤ nm v := by omega
        obtain ⟨t, hs⟩ := h.own_shut hvn (Nat.lt_of_le_of_lt (h.le v) hv)
        rw [h.id] at hs
        rw [om_own h.id ha hn hs, q2 _ t hs, inst_inst]
        exact inst_congr t fun w hw => ih w (ha _ t hs w hw) ((h.name _ t hs).2.2.2.2 w hw).1
    refine ⟨fun v => ?_, fun v t ht => ?_⟩
    · unfold nmK
      by_cases hv : v < n0
      · rw [if_pos hv, ← hl v hv, ← hl _ (Nat.lt_of_le_of_lt (h.le v) hv)]; exact q1 v
      · rw [if_neg hv]
    · obtain ⟨hv, s, hs, rfl⟩ := hst v t ht
      rw [← hl v hv, q2 v s hs, inst_inst]
      exact inst_congr s fun w hw => e w ((h.name v s hs).2.2.2.2 w hw).1
end
end Types
end Go.Proofs.YtjchplgapaeagaaDoor
namespace Go.Proofs.YtjchplgapaeagaaDoor
set_option linter.unusedVariables false
namespace Types

mutual
/-- How many nodes that are no variables. -/
def nv : Ty → Nat
  | .node h l => (if h.k = 5 then 0 else 1) + nvK l
def nvK : List Ty → Nat
  | [] => 0
  | t :: ts => nv t + nvK ts
end
theorem nv_eq (t : Ty) : nv t = (if t.h.k = 5 then 0 else 1) + nvK t.ks := by
  cases t
  conv => lhs; unfold nv
  rfl
theorem nvK_nil : nvK [] = 0 := by unfold nvK; rfl
theorem nvK_cons (t : Ty) (ts : List Ty) : nvK (t :: ts) = nv t + nvK ts := by conv => lhs; unfold nvK
theorem nv_var (v : Nat) : nv (tyV v) = 0 := by
  rw [nv_eq, if_pos (show (tyV v).h.k = 5 from rfl)]
  show 0 + nvK [] = 0
  rw [nvK_nil]
theorem nvK_vars : ∀ vs : List Nat, nvK (vs.map tyV) = 0
  | [] => nvK_nil
  | v :: vs => by rw [List.map_cons, nvK_cons, nv_var, nvK_vars vs]
theorem nv_le : ∀ t, nv t ≤ wt t := by
  refine ty_rec fun t ih => ?_
  have hk : ∀ ts : List Ty, (∀ u ∈ ts, nv u ≤ wt u) → nvK ts ≤ wts ts := by
    intro ts
    induction ts with
    | nil => intro _; rw [nvK_nil]; omega
    | cons u ts ihs => intro h; rw [nvK_cons, wts_cons]; have := h u (by simp); have := ihs fun x hx => h x (by simp [hx]); omega
  have := hk t.ks ih
  rw [nv_eq, wt_ks]
  split <;> omega
theorem wt_nv : ∀ t, mayT t = true → wt t ≤ 2 * nv t + 1 := by
  refine ty_rec fun t ih hm => ?_
  have hn := may_node hm
  by_cases hk : t.h.k = 5
  · rw [is_var hm hk, nv_var]
    have : wt (tyV t.h.v.toNat) = 1 := by rw [wt_ks]; show wts [] + 1 = 1; rw [wts_nil]
    omega
  · rw [nv_eq, if_neg hk]
    rcases hn.1 with ⟨_, hl⟩ | ⟨_, hl⟩ | ⟨_, hl⟩
    · rw [wt_ks, List.eq_nil_of_length_eq_zero hl, wts_nil]; omega
    · have h1 := ih (tget t.ks 0) (tget_mem (by omega)) (may_kid hm (by omega))
      match hks : t.ks, hl with
      | [a], _ =>
        rw [hks] at h1
        have h1 : wt a ≤ 2 * nv a + 1 := h1
        rw [wt_ks, hks, wts_cons, wts_nil, nvK_cons, nvK_nil]; omega
    · have h1 := ih (tget t.ks 0) (tget_mem (by omega)) (may_kid hm (by omega))
      have h2 := ih (tget t.ks 1) (tget_mem (by omega)) (may_kid hm (by omega))
      match hks : t.ks, hl with
      | [a, b], _ =>
        rw [hks] at h1 h2
        have h1 : wt a ≤ 2 * nv a + 1 := h1
        have h2 : wt b ≤ 2 * nv b + 1 := h2
        rw [wt_ks, hks, wts_cons, wts_cons, wts_nil, nvK_cons, nvK_cons, nvK_nil]; omega
/-- A sum over the numbers below one. -/
def sumN : Nat → (Nat → Nat) → Nat
  | 0, _ => 0
  | n + 1, F => sumN n F + F n
theorem sumN_congr : ∀ {n : Nat} {F H : Nat → Nat}, (∀ v, v < n → F v = H v) → sumN n F = sumN n H
  | 0, _, _, _ => rfl
  | n + 1, F, H, h => by
    show sumN n F + F n = sumN n H + H n
    rw [sumN_congr fun v hv => h v (by omega), h n (by omega)]
theorem sumN_le : ∀ {n : Nat} {F H : Nat → Nat}, (∀ v, v < n → F v ≤ H v) → sumN n F ≤ sumN n H
  | 0, _, _, _ => Nat.le_refl _
  | n + 1, F, H, h => by
    show sumN n F + F n ≤ sumN n H + H n
    have := sumN_le (F := F) (H := H) fun v (hv : v < n) => h v (by omega)
    have := h n (by omega)
    omega
theorem sumN_upd : ∀ {n : Nat} {F : Nat → Nat} {v x : Nat}, v < n → sumN n (upd F v x) + F v = sumN n F + x
  | 0, _, _, _, h => by omega
  | n + 1, F, v, x, h => by
    show sumN n (upd F v x) + upd F v x n + F v = sumN n F + F n + x
    by_cases e : v = n
    · subst e
      rw [upd_same, sumN_congr (H := F) fun u hu => upd_other _ _ (by omega)]
      omega
    · rw [upd_other _ _ (by omega)]
      have := sumN_upd (F := F) (v := v) (x := x) (show v < n by omega)
      omega
theorem sumN_out : ∀ {n : Nat} {F : Nat → Nat} {v x : Nat}, n ≤ v → sumN n (upd F v x) = sumN n F := fun h => sumN_congr fun u hu => upd_other _ _ (by omega)
theorem sumN_add : ∀ (n : Nat) (F H : Nat → Nat), sumN n (fun v => F v + H v) = sumN n F + sumN n H
  | 0, _, _ => rfl
  | n + 1, F, H => by
    show sumN n _ + (F n + H n) = sumN n F + F n + (sumN n H + H n)
    rw [sumN_add n F H]; omega
theorem sumN_mul (c : Nat) : ∀ (n : Nat) (F : Nat → Nat), sumN n (fun v => c * F v) = c * sumN n F
  | 0, _ => rfl
  | n + 1, F => by
    show sumN n _ + c * F n = c * (sumN n F + F n)
    rw [sumN_mul c n F, Nat.mul_add]
theorem sumN_swap : ∀ (n m : Nat) (F : Nat → Nat → Nat), sumN n (fun a => sumN m (fun b => F a b)) = sumN m (fun b => sumN n (fun a => F a b))
  | 0, m, F => by
    show 0 = sumN m fun _ => 0
    induction m with
    | zero => rfl
    | succ m ih => show 0 = sumN m _ + 0; rw [← ih]
  | n + 1, m, F => by
    show sumN n _ + sumN m (F n) = sumN m (fun b => sumN n (fun a => F a b) + F n b)
    rw [sumN_swap n m F, sumN_add]
theorem sumN_zero : ∀ (n : Nat), sumN n (fun _ => 0) = 0
  | 0 => rfl
  | n + 1 => by show sumN n _ + 0 = 0; rw [sumN_zero n]
/-- At most one of them is there. -/
theorem sumN_one {n : Nat} {F : Nat → Nat} (h1 : ∀ v, v < n → F v ≤ 1) (h2 : ∀ u v, u < n → v < n → 1 ≤ F u → 1 ≤ F v → u = v) : sumN n F ≤ 1 := by
  induction n with
  | zero => exact Nat.zero_le _
  | succ n ih =>
    show sumN n F + F n ≤ 1
    by_cases hn : F n = 0
    · have := ih (fun v hv => h1 v (by omega)) (fun u v a b => h2 u v (by omega) (by omega)); omega
    · have : sumN n F = 0 := by
        rw [sumN_congr (H := fun _ => 0), sumN_zero]
        intro v hv
        rcases Nat.eq_zero_or_pos (F v) with e | e
        · exact e
        · have := h2 v n (by omega) (by omega) e (by omega); omega
      have := h1 n (by omega)
      omega
/-- What a name weighs: its type's nodes; or itself. -/
def wS (nm : Nat → Nat) (st : Nat → Option Ty) (v : Nat) : Nat := match st v with
  | some t => nv t
  | none => if nm v = v then 1 else 0
/-- What is still to be opened. -/
def wO (st : Nat → Option Ty) (v : Nat) : Nat := match st v with
  | some t => nvK t.ks
  | none => 0
def sS (N : Nat) (nm : Nat → Nat) (st : Nat → Option Ty) : Nat := sumN N (wS nm st)
def sO (N : Nat) (st : Nat → Option Ty) : Nat := sumN N (wO st)
/-- The nodes of a list's own parts. -/
theorem op_sums : ∀ (ts : List Ty) (N : Nat) (nm : Nat → Nat) (st : Nat → Option Ty), (∀ s ∈ ts, mayT s = true) → sS (opN N ts) nm (opF st N ts) = sS N nm st + nvK ts ∧ opN N ts + sO (opN N ts) (opF st N ts) = N + sO N st + nvK ts
  | [], N, nm, st, hm => by rw [nvK_nil]; exact ⟨rfl, rfl⟩
  | t :: ts, N, nm, st, hm => by
    unfold opN opF
    rw [nvK_cons]
    by_cases hk : t.h.k = 5
    · rw [if_pos hk, if_pos hk]
      obtain ⟨h1, h2⟩ := op_sums ts N nm st fun s hs => hm s (by simp [hs])
      have : nv t = 0 := by rw [is_var (hm t (by simp)) hk, nv_var]
      exact ⟨by omega, by omega⟩
    · rw [if_neg hk, if_neg hk]
      obtain ⟨h1, h2⟩ := op_sums ts (N + 1) nm (upd st N (some t)) fun s hs => hm s (by simp [hs])
      have e1 : sS (N + 1) nm (upd st N (some t)) = sS N nm st + nv t := by
        unfold sS
        show sumN N _ + wS nm (upd st N (some t)) N = _
        rw [sumN_congr (H := wS nm st) fun v hv => by unfold wS; rw [upd_other _ _ (by omega)]]
        congr 1
        unfold wS; rw [upd_same]
      have e2 : sO (N + 1) (upd st N (some t)) = sO N st + nvK t.ks := by
        unfold sO
        show sumN N _ + wO (upd st N (some t)) N = _
        rw [sumN_congr (H := wO st) fun v hv => by unfold wO; rw [upd_other _ _ (by omega)]]
        congr 1
        unfold wO; rw [upd_same]
      have e3 := nv_eq t
      rw [if_neg hk] at e3
      exact ⟨by omega, by omega⟩
def oN : Option Ty → Nat
  | some t => nv t
  | none => 1
def oK : Option Ty → Nat
  | some t => nvK t.ks
  | none => 0
/-- One name less. -/
theorem sums_U {N : Nat} {nm : Nat → Nat} {st : Nat → Option Ty} {lo hi : Nat} {T : Option Ty} (hlt : lo < hi) (hhi : hi < N) (hl : nm lo = lo) (hh : nm hi = hi) :
    sS N (nmU nm lo hi) (stU st lo hi T) + wS nm st lo + wS nm st hi = sS N nm st + oN T ∧
    sO N (stU st lo hi T) + wO st lo + wO st hi = sO N st + oK T := by
  have hlh : lo ≠ hi := by omega
  constructor
  · have e : ∀ v, wS (nmU nm lo hi) (stU st lo hi T) v = upd (upd (wS nm st) hi 0) lo (oN T) v := by
      intro v
      by_cases e1 : v = lo
      · subst e1
        rw [upd_same]
        unfold wS
        rw [stU_lo]
        cases T with
        | some t => rfl
        | none =>
          show (if nmU nm v hi v = v then 1 else 0) = 1
          rw [if_pos]
          unfold nmU; rw [hl, if_neg hlh]
      · rw [upd_other _ _ e1]
        by_cases e2 : v = hi
        · subst e2
          rw [upd_same]
          unfold wS
          rw [stU_hi hlh]
          show (if nmU nm lo v v = v then 1 else 0) = 0
          rw [if_neg]
          unfold nmU; rw [hh, if_pos rfl]; omega
        · rw [upd_other _ _ e2]
          unfold wS
          rw [stU_other e1 e2]
          cases hs : st v with
          | some t => rfl
          | none =>
            show (if nmU nm lo hi v = v then 1 else 0) = if nm v = v then 1 else 0
            unfold nmU
            by_cases e3 : nm v = hi
            · rw [if_pos e3, if_neg (by omega), if_neg (by omega)]
            · rw [if_neg e3]
    unfold sS
    rw [sumN_congr fun v _ => e v]
    have h1 := sumN_upd (F := upd (wS nm st) hi 0) (v := lo) (x := oN T) (show lo < N by omega)
    have h2 := sumN_upd (F := wS nm st) (v := hi) (x := 0) hhi
    rw [upd_other _ _ hlh] at h1
    omega
  · have e : ∀ v, wO (stU st lo hi T) v = upd (upd (wO st) hi 0) lo (oK T) v := by
      intro v
      by_cases e1 : v = lo
      · subst e1
        rw [upd_same]
        unfold wO
        rw [stU_lo]
        cases T <;> rfl
      · rw [upd_other _ _ e1]
        by_cases e2 : v = hi
        · subst e2
          rw [upd_same]
          unfold wO
          rw [stU_hi hlh]
        · rw [upd_other _ _ e2]
          unfold wO
          rw [stU_other e1 e2]
    unfold sO
    rw [sumN_congr fun v _ => e v]
    have h1 := sumN_upd (F := upd (wO st) hi 0) (v := lo) (x := oK T) (show lo < N by omega)
    have h2 := sumN_upd (F := wO st) (v := hi) (x := 0) hhi
    rw [upd_other _ _ hlh] at h1
    omega

/-! ### Each of the trial's own stands in one place -/
section
variable {n0 : Nat} {nm0 : Nat → Nat} {st0 : Nat → Option Ty} {σ0 : Nat → Ty} {n1 : Nat} {G : (Nat → Ty) → Prop}
    {N : Nat} {nm : Nat → Nat} {st : Nat → Option Ty} {O : Nat → Ty} {par pos : Nat → Nat} {joined : List Nat} {g : Nat → Bool} {row : List (Nat × Nat)} {r : Nat → Nat}
/-- A way from a name down to c0, by what they stand for, through the trial's own. -/
inductive Way (n0 : Nat) (nm : Nat → Nat) (st : Nat → Option Ty) (c0 : Nat) : Nat → Nat → Prop where
  | here : Way n0 nm st c0 0 c0
  | up {i c u : Nat} {t : Ty} : st c = some t → u ∈ varsT t → n0 ≤ nm u → Way n0 nm st c0 i (nm u) → Way n0 nm st c0 (i + 1) c
/-- Its kids are variables, where one is the trial's own. -/
theorem TrI.kid_pos (h : TrI n0 nm0 st0 σ0 n1 G N nm st O par pos row joined g) {c u : Nat} {t : Ty} (hs : st c = some t) (hu : u ∈ varsT t) (ho : n0 ≤ nm u) :
    ∃ j, j < t.ks.length ∧ tget t.ks j = tyV u ∧ n1 ≤ u ∧ nm (par u) = c ∧ pos u = j := by
  obtain ⟨_, _, tm, tk, tv⟩ := h.name c t hs
  have hun : n0 ≤ u := Nat.le_trans ho (h.le u)
  rcases h.flat c t hs with hf | hf
  · have := hf u hu; omega
  · rw [varsT_ks tk] at hu
    obtain ⟨s, hs', hus⟩ := mem_varsK.1 hu
    have e := is_var (may_mem tm hs') (hf s hs')
    rw [e, vars_var, List.mem_singleton] at hus
    obtain ⟨j, hj, rfl⟩ := List.mem_iff_getElem.1 hs'
    have ej : t.ks[j] = tget t.ks j := by have := tget_at hj; rw [List.getElem?_eq_getElem hj] at this; exact Option.some.inj this
    rw [ej] at e hus
    rw [← hus] at e
    obtain ⟨a, b, d⟩ := h.p1 c t hs j u hj e hun
    exact ⟨j, hj, e, a, b, d⟩
/-- Of two ways of one length the ends are the same. -/
theorem TrI.way_one (h : TrI n0 nm0 st0 σ0 n1 G N nm st O par pos row joined g) {c0 : Nat} : ∀ {i c d : Nat}, Way n0 nm st c0 i c → Way n0 nm st c0 i d → c = d := by
  intro i
  induction i with
  | zero => intro c d a b; cases a; cases b; rfl
  | succ i ih =>
    intro c d a b
    cases a with
    | up s1 u1 o1 w1 =>
      rename_i u t
      cases b with
      | up s2 u2 o2 w2 =>
        rename_i u' t'
        have e := ih w1 w2
        obtain ⟨j, _, _, q1, q2, _⟩ := h.kid_pos s1 u1 o1
        obtain ⟨j', _, _, q1', q2', _⟩ := h.kid_pos s2 u2 o2
        have := (h.p2 u u' q1 ((h.name _ _ s1).2.2.2.2 u u1).1 q1' ((h.name _ _ s2).2.2.2.2 u' u2).1 e o1).1
        rw [← q2, ← q2', this]
theorem way_part {n0 : Nat} {nm : Nat → Nat} {st : Nat → Option Ty} {c0 : Nat} : ∀ {i c : Nat}, Way n0 nm st c0 i c → ∀ k, k < i → ∃ d, Way n0 nm st c0 k d ∧ n0 ≤ d := by
  intro i
  induction i with
  | zero => intro c _ k hk; omega
  | succ i ih =>
    intro c w k hk
    cases w with
    | up s u o w =>
      by_cases e : k = i
      · subst e; exact ⟨_, w, o⟩
      · exact ih w k (by omega)
theorem way_rank (ha : ∀ v t, st v = some t → ∀ w ∈ varsT t, r (nm w) < r v) {c0 : Nat} : ∀ {i c : Nat}, Way n0 nm st c0 i c → ∀ k d, k < i → Way n0 nm st c0 k d → (∀ x y j, Way n0 nm st c0 j x → Way n0 nm st c0 j y → x = y) → r d < r c := by
  intro i
  induction i with
  | zero => intro c _ k d hk; omega
  | succ i ih =>
    intro c w k d hk wd hone
    cases w with
    | up s u o w =>
      have h1 := ha _ _ s _ u
      by_cases e : k = i
      · subst e; rw [hone _ _ _ wd w]; exact h1
      · have := ih w k d (by omega) wd hone; omega
/-- How often c0 stands in what is told of a name. -/
def cntF (n0 : Nat) (nm : Nat → Nat) (st : Nat → Option Ty) (c0 : Nat) : Nat → Nat → Nat
  | 0, c => if c = c0 then 1 else 0
  | k + 1, c => (if c = c0 then 1 else 0) + match st c with
    | none => 0
    | some t => ((varsT t).map fun u => if nm u < n0 then 0 else cntF n0 nm st c0 k (nm u)).sum
def cnt (n0 : Nat) (nm : Nat → Nat) (st : Nat → Option Ty) (r : Nat → Nat) (c0 c : Nat) : Nat := cntF n0 nm st c0 (r c) c
end
end Types
end Go.Proofs.YtjchplgapaeagaaDoor
