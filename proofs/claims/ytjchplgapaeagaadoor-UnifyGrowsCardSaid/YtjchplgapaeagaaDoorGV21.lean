/-Unification: what the book under a trial is told, and what it is then. slices.DeleteFunc of a row of ints, with the function (*enclave/unify.Book).finite$1. (Written by wip/tools/undel.py.) -/
import Derived.Test.YtjchplgapaeagaaDoorGV14
import Derived.Test.YtjchplgapaeagaaDoorGV15
namespace Go.Proofs.YtjchplgapaeagaaDoor
set_option linter.unusedVariables false
namespace Types

theorem om_congr {n0 : Nat} {nm : Nat → Nat} {st st' : Nat → Option Ty} {r : Nat → Nat} (h : ∀ c, n0 ≤ c → st c = st' c) : om n0 nm st r = om n0 nm st' r := by
  have hk : ∀ k v, omF n0 nm st k v = omF n0 nm st' k v := by
    intro k
    induction k with
    | zero => intro v; rfl
    | succ k ih =>
      intro v
      unfold omF
      split
      · rfl
      · rename_i hv
        rw [h _ (by omega)]
        cases st' (nm v) with
        | none => rfl
        | some t => exact inst_congr t fun w _ => ih w
  funext v
  exact hk _ v
/-- What is told of one name. -/
def Told (n0 : Nat) (nm : Nat → Nat) (st : Nat → Option Ty) (r : Nat → Nat) (v : Nat) (o : Option Ty) : Prop :=
  (nm v = v ∧ st v = none ∧ o = none) ∨ (nm v < v ∧ st v = none ∧ o = some (tyV (nm v))) ∨ (nm v = v ∧ ∃ t, st v = some t ∧ o = some (inst (om n0 nm st r) t))
/-- So far. -/
structure KpI (n0 : Nat) (nm : Nat → Nat) (st : Nat → Option Ty) (r : Nat → Nat) (e0 : Nat → Option Ty) (done : List Nat) (e0' stx : Nat → Option Ty) : Prop where
  sx : ∀ v, v ∉ done → stx v = st v
  sd : ∀ v, stx v = st v ∨ (v < n0 ∧ ∃ t, st v = some t ∧ stx v = some (inst (om n0 nm st r) t))
  old : ∀ v, (v ∉ done ∨ n0 ≤ v) → e0' v = e0 v
  told : ∀ v, v ∈ done → v < n0 → Told n0 nm st r v (e0' v)
def stF (n0 : Nat) (nm : Nat → Nat) (st : Nat → Option Ty) (r : Nat → Nat) (js : List Nat) (v : Nat) : Option Ty := if v < n0 then (if v ∈ js then (st v).map (inst (om n0 nm st r)) else st v) else none
theorem KpI.start {n0 : Nat} {nm : Nat → Nat} {st : Nat → Option Ty} {r : Nat → Nat} {e0 : Nat → Option Ty} : KpI n0 nm st r e0 [] e0 st := ⟨fun v _ => rfl, fun v => .inl rfl, fun v _ => rfl, fun v h => by cases h⟩
section
variable {n0 : Nat} {nm0 : Nat → Nat} {st0 : Nat → Option Ty} {r0 : Nat → Nat} {σ0 : Nat → Ty} {n1 : Nat} {G : (Nat → Ty) → Prop}
    {N : Nat} {nm : Nat → Nat} {st : Nat → Option Ty} {O : Nat → Ty} {par pos : Nat → Nat} {joined : List Nat} {g : Nat → Bool} {r : Nat → Nat} {e0 e0' stx : Nat → Option Ty} {js done : List Nat}
/-- What whole asks, of a trial whose names stand for what is told. -/
theorem TrI.asks (h : TrI n0 nm0 st0 σ0 n1 G N nm st O par pos [] joined g) (hb : Bo n0 nm0 st0 g r0) (hG : ∀ θ ψ : Nat → Ty, (∀ v, v < n0 → θ v = ψ v) → G θ → G ψ) (ha : ∀ v t, st v = some t → ∀ w ∈ varsT t, r (nm w) < r v)
    (hs : ∀ v, stx v = st v ∨ (v < n0 ∧ ∃ t, st v = some t ∧ stx v = some (inst (om n0 nm st r) t))) :
    om n0 nm stx r = om n0 nm st r ∧ (∀ v t, stx v = some t → ∀ w ∈ varsT t, r (nm w) < r v) ∧ (∀ v, v < N → n0 ≤ nm v → ∃ s, stx (nm v) = some s) ∧ (∀ v t, stx v = some t → mayT t = true ∧ ∀ w ∈ varsT t, w < N) := by
  have hN := h.n01
  obtain ⟨hk, _⟩ := h.keep hb hG ha
  have hK : ∀ v t, v < n0 → st v = some t → stK n0 nm st r v = some (inst (om n0 nm st r) t) := fun v t hv ht => by unfold stK; rw [if_pos hv, ht]; rfl
  refine ⟨om_congr fun c hc => ?_, fun v t ht w hw => ?_, fun v hv hn => ?_, fun v t ht => ?_⟩
  · rcases hs c with e | ⟨q, _⟩
    · exact e
    · omega
  · rcases hs v with e | ⟨q, t0, e1, e2⟩
    · rw [e] at ht; exact ha v t ht w hw
    · rw [e2] at ht; cases ht
      have h1 := hk.ac v _ (hK v t0 q e1) w hw
      have h2 := (hk.name v _ (hK v t0 q e1)).2.2.2 w hw
      unfold nmK at h1
      rw [if_pos h2] at h1
      exact h1
  · have hs' : stx (nm v) = st (nm v) := by
      rcases hs (nm v) with e | ⟨q, _⟩
      · exact e
      · omega
    rw [hs']
    have hv0 : n0 ≤ v := Nat.le_trans hn (h.le v)
    exact h.own_shut hv0 hv
  · rcases hs v with e | ⟨q, t0, e1, e2⟩
    · rw [e] at ht
      obtain ⟨_, _, a, _, b⟩ := h.name v t ht
      exact ⟨a, fun w hw => (b w hw).1⟩
    · rw [e2] at ht; cases ht
      obtain ⟨_, a, _, b⟩ := hk.name v _ (hK v t0 q e1)
      exact ⟨a, fun w hw => by have := b w hw; omega⟩
theorem Rep.relink {f : Nat → Option Ty} (h : Rep f nm st) {v w : Nat} (hf : f v = some (tyV w)) : Rep (upd f v (some (tyV (nm v)))) nm st ∧ nm v < v ∧ st v = none := by
  obtain ⟨h1, h2, h3⟩ := h.link v w hf
  have hlt : nm v < v := by rw [h2]; exact Nat.lt_of_le_of_lt (h.le w) h1
  refine ⟨⟨fun u hu => ?_, fun u x hu => ?_, fun u t hu hk => ?_, fun u t hu => ?_⟩, hlt, h3⟩
  all_goals by_cases e : u = v
  · subst e; rw [upd_same] at hu; cases hu
  · rw [upd_other _ _ e] at hu; exact h.no u hu
  · subst e
    rw [upd_same] at hu
    have := tyV_inj (Option.some.inj hu)
    subst this
    exact ⟨hlt, (h.id u).symm, h3⟩
  · rw [upd_other _ _ e] at hu; exact h.link u x hu
  · subst e; rw [upd_same] at hu; cases hu; exact absurd rfl hk
  · rw [upd_other _ _ e] at hu; exact h.type u t hu hk
  · subst e; rw [upd_same] at hu; cases hu; exact may_V _
  · rw [upd_other _ _ e] at hu; exact h.may u t hu
/-- One more is told. -/
theorem KpI.step (h : KpI n0 nm st r e0 done e0' stx) {k0 : Bk} {e : Nat → Option Ty} (hR : Rep (cmb (some (k0, n0, e0')) e) nm stx) {v : Nat} (hv : v < n0) (hd : v ∉ done) {t : Ty} (hc : cmb (some (k0, n0, e0')) e v = some t) (hom : om n0 nm stx r = om n0 nm st r)
    (hm : t.h.k ≠ 5 → mayT (inst (om n0 nm st r) t) = true) : ∃ stx', KpI n0 nm st r e0 (done ++ [v]) (upd e0' v (some (inst (om n0 nm stx r) t))) stx' ∧ Rep (cmb (some (k0, n0, upd e0' v (some (inst (om n0 nm stx r) t)))) e) nm stx' := by
  rw [hom]
  obtain ⟨T, hT⟩ : ∃ T, T = inst (om n0 nm st r) t := ⟨_, rfl⟩
  rw [← hT]
  have hcmb : cmb (some (k0, n0, upd e0' v (some T))) e = if (e v).isSome then cmb (some (k0, n0, e0')) e else upd (cmb (some (k0, n0, e0')) e) v (some T) := by
    funext x
    by_cases hev : (e v).isSome
    · rw [if_pos hev]
      unfold cmb
      cases hx : e x with
      | some y => rfl
      | none =>
        show upd e0' v (some T) x = e0' x
        have : x ≠ v := fun q => by subst q; rw [hx] at hev; cases hev
        rw [upd_other _ _ this]
    · rw [if_neg hev]
      by_cases hx : x = v
      · subst hx
        rw [upd_same]
        have : e x = none := by cases q : e x with | none => rfl | some y => rw [q] at hev; exact absurd rfl hev
        unfold cmb
        rw [this]
        show upd e0' x (some T) x = _
        rw [upd_same]
      · rw [upd_other _ _ hx]
        unfold cmb
        cases e x with
        | some y => rfl
        | none => show upd e0' v (some T) x = e0' x; rw [upd_other _ _ hx]
  have hold : ∀ x, (x ∉ done ++ [v] ∨ n0 ≤ x) → upd e0' v (some T) x = e0 x := fun x hx => by
    have hxv : x ≠ v := fun q => by
      subst q
      rcases hx with hx | hx
      · exact hx (by simp)
      · omega
    rw [upd_other _ _ hxv]
    exact h.old x (hx.imp (fun q q2 => q (by simp [q2])) _root_.id)
  have htold : Told n0 nm st r v (some T) → ∀ x, x ∈ done ++ [v] → x < n0 → Told n0 nm st r x (upd e0' v (some T) x) := fun hv' x hx hxn => by
    by_cases e1 : x = v
    · subst e1; rw [upd_same]; exact hv'
    · rw [upd_other _ _ e1]
      rcases List.mem_append.1 hx with hx | hx
      · exact h.told x hx hxn
      · rw [List.mem_singleton] at hx; exact absurd hx e1
  have hsv := h.sx v hd
  by_cases hk : t.h.k = 5
  · have hx := is_var (hR.may v t hc) hk
    obtain ⟨w, hw⟩ : ∃ w, t = tyV w := ⟨_, hx⟩
    rw [hw] at hc
    obtain ⟨h1, h2, h3⟩ := hR.relink hc
    have hTe : T = tyV (nm v) := by
      obtain ⟨q1, q2, _⟩ := hR.link v w hc
      rw [hT, hw, inst_var, q2]
      exact om_under (Nat.lt_of_le_of_lt (hR.le w) (by omega))
    refine ⟨stx, ⟨fun x hx => h.sx x fun q => hx (by simp [q]), h.sd, hold, htold (.inr (.inl ⟨h2, by rw [← hsv]; exact h3, by rw [hTe]⟩))⟩, ?_⟩
    rw [hcmb]
    split
    · exact hR
    · rw [hTe]; exact h1
  · obtain ⟨h1, h2⟩ := hR.type v t hc hk
    have hst : st v = some t := by rw [← hsv]; exact h2
    have hTk : T.h.k ≠ 5 := by rw [hT, (inst_head hk).1]; exact hk
    have ht : Told n0 nm st r v (some T) := .inr (.inr ⟨h1, t, hst, by rw [hT]⟩)
    by_cases hev : (e v).isSome
    · refine ⟨stx, ⟨fun x hx => h.sx x fun q => hx (by simp [q]), h.sd, hold, htold ht⟩, ?_⟩
      rw [hcmb, if_pos hev]; exact hR
    · refine ⟨upd stx v (some T), ⟨fun x hx => ?_, fun x => ?_, hold, htold ht⟩, ?_⟩
      · have hxv : x ≠ v := fun q => hx (by simp [q])
        rw [upd_other _ _ hxv]
        exact h.sx x fun q => hx (by simp [q])
      · by_cases e1 : x = v
        · subst e1; rw [upd_same]; exact .inr ⟨hv, t, hst, by rw [hT]⟩
        · rw [upd_other _ _ e1]; exact h.sd x
      · rw [hcmb, if_neg hev]
        exact hR.set h1 (by rw [hT]; exact hm hk) hTk
/-- Nothing is to be told of it. -/
theorem KpI.skip (h : KpI n0 nm st r e0 done e0' stx) {k0 : Bk} {e : Nat → Option Ty} (hR : Rep (cmb (some (k0, n0, e0')) e) nm stx) {v : Nat} (hd : v ∉ done) (hc : n0 ≤ v ∨ cmb (some (k0, n0, e0')) e v = none) : KpI n0 nm st r e0 (done ++ [v]) e0' stx := by
  refine ⟨fun x hx => h.sx x fun q => hx (by simp [q]), h.sd, fun x hx => ?_, fun x hx hxn => ?_⟩
  · exact h.old x (hx.imp (fun q q2 => q (by simp [q2])) _root_.id)
  · rcases List.mem_append.1 hx with hx | hx
    · exact h.told x hx hxn
    · rw [List.mem_singleton] at hx
      subst hx
      rcases hc with hc | hc
      · omega
      · obtain ⟨a, b⟩ := hR.no x hc
        rw [h.sx x hd] at b
        refine .inl ⟨a, b, ?_⟩
        unfold cmb at hc
        cases hex : e x with
        | some y => rw [hex] at hc; cases hc
        | none => rw [hex] at hc; exact hc
/-- All is told. -/
theorem TrI.final (h : TrI n0 nm0 st0 σ0 n1 G N nm st O par pos [] joined g) (hb : Bo n0 nm0 st0 g r0) (hG : ∀ θ ψ : Nat → Ty, (∀ v, v < n0 → θ v = ψ v) → G θ → G ψ) (ha : ∀ v t, st v = some t → ∀ w ∈ varsT t, r (nm w) < r v)
    (hR0 : Rep e0 nm0 st0) (hR : ∀ v t, st v = some t → nm v = v) (hj : ∀ v, v ∈ joined → v ∈ js) (hjn : ∀ v ∈ js, v ∈ joined) (hK : KpI n0 nm st r e0 js e0' stx) :
    Rep e0' (nmK n0 nm) (stF n0 nm st r js) ∧ Bo n0 (nmK n0 nm) (stF n0 nm st r js) g r ∧ (∀ θ, SolA (nmK n0 nm) (stF n0 nm st r js) θ ↔ SolA nm0 st0 θ ∧ G θ) ∧ sumN n0 (wT (stF n0 nm st r js)) ≤ sumN N (wT st) := by
  obtain ⟨hk, hsol⟩ := h.keep hb hG ha
  have hnm : ∀ v, v < n0 → nmK n0 nm v = nm v := fun v hv => by unfold nmK; rw [if_pos hv]
  have hKs : ∀ v t, v < n0 → st v = some t → stK n0 nm st r v = some (inst (om n0 nm st r) t) := fun v t hv ht => by unfold stK; rw [if_pos hv, ht]; rfl
  -- an old one that wasn't joined
  have hold : ∀ v, v < n0 → v ∉ js → nm0 v = v → nm v = v ∧ st v = st0 v := fun v hv hn h0 => by
    refine Classical.byContradiction fun hc => hn (hj v (h.jo v hv h0 ?_))
    by_cases e : nm v = v
    · exact .inr fun q => hc ⟨e, q⟩
    · exact .inl e
  have hst0 : ∀ v t, v < n0 → v ∉ js → st v = some t → nm0 v = v ∧ st0 v = some t := fun v t hv hn ht => by
    have h1 := hR v t ht
    have h2 := h.ref v
    have h3 := hb.le v
    have h4 := h.le (nm0 v)
    have h0 : nm0 v = v := by omega
    exact ⟨h0, by rw [← (hold v hv hn h0).2]; exact ht⟩
  have hF : ∀ v t, stF n0 nm st r js v = some t → v < n0 ∧ ((v ∈ js ∧ ∃ s, st v = some s ∧ t = inst (om n0 nm st r) s) ∨ (v ∉ js ∧ st v = some t)) := fun v t ht => by
    unfold stF at ht
    split at ht
    · rename_i hv
      split at ht
      · rename_i hvj
        cases hs : st v with
        | none => rw [hs] at ht; cases ht
        | some s => rw [hs] at ht; exact ⟨hv, .inl ⟨hvj, s, rfl, (Option.some.inj ht).symm⟩⟩
      · rename_i hvj
        exact ⟨hv, .inr ⟨hvj, ht⟩⟩
    · cases ht
  have hbo : Bo n0 (nmK n0 nm) (stF n0 nm st r js) g r := by
    refine ⟨hk.le, hk.id, fun v hv => ⟨(hk.out v hv).1, by unfold stF; rw [if_neg (by omega)]⟩, fun v t ht => ?_, fun v t ht w hw => ?_, fun v t ht w hw => ?_⟩
    · obtain ⟨hv, ⟨_, s, hs, rfl⟩ | ⟨hn, hs⟩⟩ := hF v t ht
      · exact hk.name v _ (hKs v s hv hs)
      · obtain ⟨q1, q2⟩ := hst0 v t hv hn hs
        obtain ⟨_, a, b, c⟩ := hb.name v t q2
        exact ⟨by rw [hnm v hv]; exact hR v t hs, a, b, c⟩
    · obtain ⟨hv, ⟨_, s, hs, rfl⟩ | ⟨hn, hs⟩⟩ := hF v t ht
      · exact hk.ac v _ (hKs v s hv hs) w hw
      · obtain ⟨q1, q2⟩ := hst0 v t hv hn hs
        rw [hnm w ((hb.name v t q2).2.2.2 w hw)]
        exact ha v t hs w hw
    · obtain ⟨hv, ⟨_, s, hs, rfl⟩ | ⟨hn, hs⟩⟩ := hF v t ht
      · exact hk.inn v _ (hKs v s hv hs) w hw
      · obtain ⟨q1, q2⟩ := hst0 v t hv hn hs
        have hw0 := (hb.name v t q2).2.2.2 w hw
        rw [hnm w hw0]
        exact h.h1 w (by have := h.n01; omega) (.inr ⟨hw0, hb.inn v t q2 w hw⟩) (Nat.lt_of_le_of_lt (h.le w) hw0)
  have hinst : ∀ θ : Nat → Ty, (∀ v, θ v = θ (nmK n0 nm v)) → ∀ v t, v < n0 → v ∉ js → st v = some t → inst θ (inst (om n0 nm st r) t) = inst θ t := fun θ hθ v t hv hn ht => by
    obtain ⟨_, q2⟩ := hst0 v t hv hn ht
    rw [inst_inst]
    refine inst_congr t fun w hw => ?_
    have hw0 := (hb.name v t q2).2.2.2 w hw
    rw [om_under (Nat.lt_of_le_of_lt (h.le w) hw0), inst_var, ← hnm w hw0]
    exact (hθ w).symm
  refine ⟨⟨fun v hv => ?_, fun v w hv => ?_, fun v t hv hkk => ?_, fun v t hv => ?_⟩, hbo, fun θ => ?_, ?_⟩
  · by_cases hvn : v < n0
    · rw [hnm v hvn]
      unfold stF; rw [if_pos hvn]
      by_cases hvj : v ∈ js
      · rcases hK.told v hvj hvn with ⟨a, b, c⟩ | ⟨_, _, c⟩ | ⟨_, t, _, c⟩
        · exact ⟨a, by rw [if_pos hvj, b]; rfl⟩
        · rw [hv] at c; cases c
        · rw [hv] at c; cases c
      · rw [hK.old v (.inl hvj)] at hv
        obtain ⟨a, b⟩ := hR0.no v hv
        obtain ⟨c, d⟩ := hold v hvn hvj a
        exact ⟨c, by rw [if_neg hvj, d]; exact b⟩
    · exact ⟨by unfold nmK; rw [if_neg hvn], by unfold stF; rw [if_neg hvn]⟩
  · by_cases hvn : v < n0
    · rw [hnm v hvn]
      unfold stF; rw [if_pos hvn]
      by_cases hvj : v ∈ js
      · rcases hK.told v hvj hvn with ⟨_, _, c⟩ | ⟨a, b, c⟩ | ⟨_, t, b, c⟩
        · rw [hv] at c; cases c
        · rw [hv] at c
          have := tyV_inj (Option.some.inj c)
          subst this
          exact ⟨a, by rw [hnm _ (by omega), h.id], by rw [if_pos hvj, b]; rfl⟩
        · rw [hv] at c
          have hk5 := (h.name v t b).2.2.2.1
          have := (inst_head (θ := om n0 nm st r) hk5).1
          rw [← Option.some.inj c] at this
          exact absurd (by rw [← this]; rfl) hk5
      · rw [hK.old v (.inl hvj)] at hv
        obtain ⟨a, b, c⟩ := hR0.link v w hv
        have hlt : nm0 v < v := by rw [b]; exact Nat.lt_of_le_of_lt (hR0.le w) a
        refine ⟨a, by rw [hnm w (by omega), ← h.ref v, ← h.ref w, b], ?_⟩
        rw [if_neg hvj]
        cases hs : st v with
        | none => rfl
        | some t =>
          have h1 := hR v t hs
          have h2 := h.ref v
          have h4 := h.le (nm0 v)
          omega
    · rw [hK.old v (.inr (by omega))] at hv
      have h1 := hR0.link v w hv
      have h2 := (hb.out v (by omega)).1
      have h3 := hR0.le w
      omega
  · by_cases hvn : v < n0
    · rw [hnm v hvn]
      unfold stF; rw [if_pos hvn]
      by_cases hvj : v ∈ js
      · rcases hK.told v hvj hvn with ⟨_, _, c⟩ | ⟨a, b, c⟩ | ⟨a, s, b, c⟩
        · rw [hv] at c; cases c
        · rw [hv] at c; cases c; exact absurd rfl hkk
        · rw [hv] at c; cases c
          exact ⟨a, by rw [if_pos hvj, b]; rfl⟩
      · rw [hK.old v (.inl hvj)] at hv
        obtain ⟨a, b⟩ := hR0.type v t hv hkk
        obtain ⟨c, d⟩ := hold v hvn hvj a
        exact ⟨c, by rw [if_neg hvj, d]; exact b⟩
    · rw [hK.old v (.inr (by omega))] at hv
      have h1 := (hR0.type v t hv hkk).2
      rw [(hb.out v (by omega)).2] at h1; cases h1
  · by_cases hvn : v < n0
    · by_cases hvj : v ∈ js
      · rcases hK.told v hvj hvn with ⟨_, _, c⟩ | ⟨a, b, c⟩ | ⟨a, s, b, c⟩
        · rw [hv] at c; cases c
        · rw [hv] at c; cases c; exact may_V _
        · rw [hv] at c; cases c; exact (hk.name v _ (hKs v s hvn b)).2.1
      · rw [hK.old v (.inl hvj)] at hv; exact hR0.may v t hv
    · rw [hK.old v (.inr (by omega))] at hv; exact hR0.may v t hv
  · rw [← hsol θ]
    constructor
    · rintro ⟨h1, h2⟩
      refine ⟨h1, fun v t ht => ?_⟩
      unfold stK at ht
      split at ht
      · rename_i hv
        cases hs : st v with
        | none => rw [hs] at ht; cases ht
        | some s =>
          rw [hs] at ht
          have ht' : inst (om n0 nm st r) s = t := Option.some.inj ht
          rw [← ht']
          by_cases hvj : v ∈ js
          · exact h2 v _ (by unfold stF; rw [if_pos hv, if_pos hvj, hs]; rfl)
          · rw [hinst θ h1 v s hv hvj hs]
            exact h2 v s (by unfold stF; rw [if_pos hv, if_neg hvj]; exact hs)
      · cases ht
    · rintro ⟨h1, h2⟩
      refine ⟨h1, fun v t ht => ?_⟩
      obtain ⟨hv, ⟨_, s, hs, rfl⟩ | ⟨hn, hs⟩⟩ := hF v t ht
      · exact h2 v _ (hKs v s hv hs)
      · rw [← hinst θ h1 v t hv hn hs]; exact h2 v _ (hKs v t hv hs)
  · refine Nat.le_trans (sumN_le fun v _ => ?_) (h.kept_nv ha)
    unfold wT
    cases hs : stF n0 nm st r js v with
    | none => exact Nat.zero_le _
    | some t =>
      obtain ⟨hv, ⟨_, s, hs', rfl⟩ | ⟨hn, hs'⟩⟩ := hF v t hs
      · rw [hKs v s hv hs']; exact Nat.le_refl _
      · rw [hKs v t hv hs']
        show nv t ≤ nv (inst (om n0 nm st r) t)
        rw [nv_inst t (h.name v t hs').2.2.1]
        exact Nat.le_add_right _ _
end
end Types
end Go.Proofs.YtjchplgapaeagaaDoor
namespace Go.Proofs.YtjchplgapaeagaaDoor
open Go.RowKit Go.Lib
set_option linter.unusedVariables false
set_option linter.unusedSimpArgs false
namespace Types

set_option maxRecDepth 100000 in
set_option maxHeartbeats 6400000 in
theorem indexF (kk : Value) (pred : Int → Bool) (Inv : World → Prop) (l : List Int) (hC : ∀ v W, v ∈ l → Inv W → Calls Tryd.prog 57 #[.int .i64 v, kk] W fun en W' => en = .returned (.bool (pred v)) ∧ Below W.heap.size W W')
    (hI : ∀ W W', Inv W → Below W.heap.size W W' → Inv W') (a : Option Addr) (n c : Nat) (w : World) (hN : n = l.length) (hn : n < 8000000000) (hr : ∀ j, j < n → ∃ g, a = some ⟨g, 0, none⟩ ∧ g < w.heap.size ∧ w.cell? ⟨g, j, none⟩ = some (.int .i64 (l.getD j 0))) (hw : Inv w) :
    Calls Tryd.prog 71 #[.slice a n c, (.func (.func 57) #[] #[kk])] w fun en w' => ((en = .returned (.int .i64 (-1)) ∧ ∀ v ∈ l, pred v = false) ∨ (∃ i : Nat, i < n ∧ en = .returned (.int .i64 (i : Int)) ∧ (∀ v ∈ l.take i, pred v = false) ∧ pred (l.getD i 0) = true)) ∧ Below w.heap.size w w' := by
  have HC := Lib.hid hC; have HI := Lib.hid hI; have HR := Lib.hid hr; have HW0 := Lib.hid hw; have HNN := Lib.hid hN
  clear hC hI hr hw hN
  go_enter Tryd.func71, Tryd.ntmps71
  go_wp2_with (fail)
  go_loopw [8] (fun i wr => ∃ j : Nat, j ≤ n ∧ i = .int .i64 j ∧ Hid (Below w.heap.size w wr) ∧ Hid (∀ v ∈ l.take j, pred v = false)) (fun i _ => n - (intOf i).toNat)
  case atStart => exact ⟨0, Nat.zero_le _, rfl, Lib.hid (Below.refl _ _), Lib.hid (fun v hv => by cases hv)⟩
  case round =>
    obtain ⟨j, hj, rfl, HW, HA⟩ := hrel
    by_cases hlt : j < n
    · obtain ⟨g, rfl, hg, hc0⟩ := HR.out j hlt
      have hc : wr.cell? ⟨g, j, none⟩ = some (.int .i64 (l.getD j 0)) := (cell_same (HW.out.block g hg)).trans hc0
      have hjl : j < l.length := by rw [← HNN.out]; exact hlt
      have hmem : l.getD j 0 ∈ l := by rw [List.getD_eq_getElem?_getD, List.getElem?_eq_getElem hjl]; exact List.getElem_mem _
      obtain ⟨x, hx⟩ : ∃ x, x = l.getD j 0 := ⟨_, rfl⟩
      rw [← hx] at hc hmem
      have hcl := HC.out x wr hmem (HI.out _ _ HW0.out HW.out)
      have HCL := Lib.hid hcl; have HX := Lib.hid (And.intro hx hjl)
      clear hc0 hcl hmem hx hjl hg
      go_wp2_with (fail)
      refine HCL.out.mono ?_
      rintro en w1 ⟨rfl, hb1⟩
      have HW1 := Lib.hid (HW.out.trans (hb1.mono HW.out.size))
      clear hb1 hc HCL
      cases hp : pred x with
      | true =>
        have HP := Lib.hid hp
        clear hp
        go_wp2_with (fail)
        go_ret
        exact ⟨.inr ⟨j, hlt, rfl, HA.out, by rw [← HX.out.1]; exact HP.out⟩, HW1.out⟩
      | false =>
        have HP := Lib.hid hp
        clear hp
        go_wp2_with (fail)
        go_roundw
        case rel => exact ⟨j + 1, by omega, by go_num, HW1, Lib.hid (fun v hv => by
          rw [List.take_add_one, List.getElem?_eq_getElem HX.out.2] at hv
          rcases List.mem_append.1 hv with hv | hv
          · exact HA.out v hv
          · have e : v = l[j]'HX.out.2 := by simpa using hv
            have e2 : x = l[j]'HX.out.2 := HX.out.1.trans (getD_at HX.out.2)
            rw [e, ← e2]; exact HP.out)⟩
        case measure => simp [intOf]; omega
    · obtain rfl : j = n := by omega
      go_wp2_with (fail)
      go_ret
      exact ⟨.inl ⟨rfl, fun v hv => HA.out v (by rw [List.take_of_length_le (by rw [← HNN.out]; exact Nat.le_refl _)]; exact hv)⟩, HW.out⟩
set_option maxRecDepth 100000 in
set_option maxHeartbeats 12800000 in
theorem deleteF (kk : Value) (pred : Int → Bool) (Inv : World → Prop) (l : List Int) (a : Option Addr) (n c base : Nat) (hC : ∀ v W, v ∈ l → Inv W → Calls Tryd.prog 57 #[.int .i64 v, kk] W fun en W' => en = .returned (.bool (pred v)) ∧ Below W.heap.size W W')
    (hI : ∀ W W', Inv W → Kp (fun b => decide ((Value.slice a n c).ownBlock ≠ some b)) W W' → Inv W') (w : World) (hN : n = l.length) (hn : n < 8000000000) (hown : w.ownsRow base 3 1 (.slice a n c) n (ints l)) (hw : Inv w) :
    Calls Tryd.prog 55 #[.slice a n c, (.func (.func 57) #[] #[kk])] w fun en w' => en = .returned (.slice a (l.filter fun v => !pred v).length c) ∧ w'.ownsRow base 3 1 (.slice a (l.filter fun v => !pred v).length c) (l.filter fun v => !pred v).length (ints (l.filter fun v => !pred v)) ∧ Kp (fun b => decide ((Value.slice a n c).ownBlock ≠ some b)) w w' := by
  have hrow : ∀ W : World, W.ownsRow base 3 1 (.slice a n c) n (ints l) → ∀ j, j < n → ∃ g, a = some ⟨g, 0, none⟩ ∧ g < W.heap.size ∧ W.cell? ⟨g, j, none⟩ = some (.int .i64 (l.getD j 0)) := fun W h j hj => by
    obtain ⟨g, rfl, hg⟩ := own_at h (by omega)
    refine ⟨g, rfl, (own_row_lt h rfl).1, row_cell h ?_⟩
    unfold ints
    rw [List.getElem?_map, List.getElem?_eq_getElem (by omega), List.getD_eq_getElem?_getD, List.getElem?_eq_getElem (by omega)]
    rfl
  have hidx := indexF kk pred Inv l hC (fun W W' h hb => hI W W' h (Kp.of_below hb)) a n c w hN hn (hrow w hown) hw
  have HIDX := Lib.hid hidx; have HC := Lib.hid hC; have HI := Lib.hid hI; have HNN := Lib.hid hN; have HOW := Lib.hid hown; have HW0 := Lib.hid hw
  clear hidx hC hI hN hown hw hrow
  go_enter Tryd.func55, Tryd.ntmps55
  go_wp2_with (fail)
  refine HIDX.out.mono ?_
  rintro en w1 ⟨hor, hb1⟩
  have hnl := HNN.out
  rcases hor with ⟨rfl, hno⟩ | ⟨i0, hi0, rfl, hbef, hat⟩
  · have hf : (l.filter fun v => !pred v) = l := List.filter_eq_self.2 fun v hv => by rw [hno v hv]; rfl
    have HFIN := Lib.hid (show (Ending.returned (.slice a n c)) = .returned (.slice a (l.filter fun v => !pred v).length c) ∧ w1.ownsRow base 3 1 (.slice a (l.filter fun v => !pred v).length c) (l.filter fun v => !pred v).length (ints (l.filter fun v => !pred v)) ∧ Kp (fun b => decide ((Value.slice a n c).ownBlock ≠ some b)) w w1 from by
      rw [hf, ← HNN.out]; exact ⟨rfl, own_all HOW.out hb1, Kp.of_below hb1⟩)
    clear hf hb1 hno HIDX hnl
    go_wp2_with (fail)
    exact bodyPost_ret (by simp [results, Tryd.results55, go_sem]) rfl HFIN.out
  · obtain ⟨g, rfl, hgb⟩ := own_at HOW.out (by omega)
    have hcap : n ≤ c ∧ c ≤ maxLen := by obtain ⟨_, _, hv, h1, h2⟩ := own_slice HOW.out; cases hv; exact ⟨h2, h1⟩
    have hneg : ((i0 : Int) == -1) = false := beq_eq_false_iff_ne.2 (by omega)
    have hlt0 : i0 < l.length := by omega
    have hF0 : (l.take (i0 + 1)).filter (fun v => !pred v) = l.take i0 := by
      rw [List.take_add_one, List.getElem?_eq_getElem hlt0, List.filter_append]
      have e1 : (l.take i0).filter (fun v => !pred v) = l.take i0 := List.filter_eq_self.2 fun v hv => by rw [hbef v hv]; rfl
      have e2 : pred (l[i0]) = true := by rw [List.getD_eq_getElem?_getD, List.getElem?_eq_getElem hlt0] at hat; exact hat
      rw [e1]
      simp [e2]
    have hl0 : l = l.take i0 ++ [l[i0]] ++ l.drop (i0 + 1) := by
      conv => lhs; rw [← List.take_append_drop (i0 + 1) l, List.take_add_one, List.getElem?_eq_getElem hlt0]
      rfl
    have HROW := Lib.hid (show ∃ gs : List Int, w1.ownsRow base 3 1 (.slice (some ⟨g, 0, none⟩) n c) n (ints ((l.take (i0 + 1)).filter (fun v => !pred v) ++ gs ++ l.drop (i0 + 1))) ∧ ((l.take (i0 + 1)).filter (fun v => !pred v)).length = i0 ∧ i0 + gs.length = i0 + 1 from
      ⟨[l[i0]], by rw [hF0, ← hl0]; exact own_all HOW.out hb1, by rw [hF0, List.length_take]; omega, rfl⟩)
    have HKW := Lib.hid (Kp.of_below (P := fun b => decide ((Value.slice (some ⟨g, 0, none⟩) n c).ownBlock ≠ some b)) hb1)
    have hcI : (n : Int) ≤ (c : Int) := by omega
    clear hF0 hl0 hb1 hbef hat hlt0 HIDX hnl
    unfold maxLen at hcap
    go_wp2_with (fail)
    go_loopw [5, 6] (fun si sj wr => ∃ (i j : Nat), i < j ∧ j ≤ n ∧ si = .int .i64 i ∧ sj = .int .i64 j ∧ Hid (∃ gs : List Int, wr.ownsRow base 3 1 (.slice (some ⟨g, 0, none⟩) n c) n (ints ((l.take j).filter (fun v => !pred v) ++ gs ++ l.drop j)) ∧ ((l.take j).filter (fun v => !pred v)).length = i ∧ i + gs.length = j) ∧ Hid (Kp (fun b => decide ((Value.slice (some ⟨g, 0, none⟩) n c).ownBlock ≠ some b)) w wr)) (fun _ sj _ => n - (intOf sj).toNat)
    case atStart => exact ⟨i0, i0 + 1, by omega, by omega, rfl, by go_num, HROW, HKW⟩
    case round =>
      obtain ⟨i, j, hij, hj, rfl, rfl, HG, HK⟩ := hrel
      clear HROW HKW
      obtain ⟨gs, hg1, hg2, hg3⟩ := HG.out
      have hnl := HNN.out
      by_cases hlt : j < n
      · have hjl : j < l.length := by omega
        have hdr : l.drop j = l[j] :: l.drop (j + 1) := List.drop_eq_getElem_cons hjl
        obtain ⟨x, hx⟩ : ∃ x, x = l[j] := ⟨_, rfl⟩
        rw [← hx] at hdr
        obtain ⟨F, hF⟩ : ∃ F, F = (l.take j).filter (fun v => !pred v) := ⟨_, rfl⟩
        rw [← hF] at hg1 hg2
        rw [hdr] at hg1
        have hxl : x ∈ l := by rw [hx]; exact List.getElem_mem _
        have hF1 : (l.take (j + 1)).filter (fun v => !pred v) = F ++ [x].filter (fun v => !pred v) := by
          rw [List.take_add_one, List.getElem?_eq_getElem hjl, List.filter_append, ← hF, hx]; rfl
        have hcx : wr.cell? ⟨g, j, none⟩ = some (.int .i64 x) := row_cell hg1 (by
          unfold ints
          rw [List.getElem?_map, List.getElem?_append_right (by rw [List.length_append]; omega), List.length_append]
          have : j - (F.length + gs.length) = 0 := by omega
          rw [this]; rfl)
        have hcl := HC.out x wr hxl (HI.out _ _ HW0.out HK.out)
        have hcF : wr.frozen? ⟨g, i, none⟩ = false := own_frozen hg1 i
        have hci : (wr.cell? ⟨g, i, none⟩).isSome = true := own_some hg1 (by omega)
        have HCL := Lib.hid hcl; have HG1 := Lib.hid hg1; have HF1 := Lib.hid hF1; have HGS := Lib.hid (And.intro hg2 hg3)
        have hiI : (i : Int) < (n : Int) := by omega
        clear hcl hg1 hF1 hg2 hg3 hF hx hdr hxl hcF hci hjl hnl
        go_wp2_with (fail)
        refine HCL.out.mono ?_
        rintro en w2 ⟨rfl, hb2⟩
        have HO2 := Lib.hid (own_all HG1.out hb2)
        have HK2 := Lib.hid (HK.out.trans (Kp.of_below hb2))
        clear hb2 hcx HCL HG1
        cases hp : pred x with
        | true =>
          have HN := Lib.hid (show ∃ gs : List Int, w2.ownsRow base 3 1 (.slice (some ⟨g, 0, none⟩) n c) n (ints ((l.take (j + 1)).filter (fun v => !pred v) ++ gs ++ l.drop (j + 1))) ∧ ((l.take (j + 1)).filter (fun v => !pred v)).length = i ∧ i + gs.length = j + 1 from
            ⟨gs ++ [x], by rw [HF1.out]; simp only [List.filter_cons, hp, Bool.not_true, Bool.false_eq_true, if_false, List.filter_nil, List.append_nil]; simpa [List.append_assoc] using HO2.out, by rw [HF1.out]; simp [hp]; exact HGS.out.1, by rw [List.length_append]; have := HGS.out.2; simp; omega⟩)
          clear hp
          go_wp2_with (fail)
          go_roundw
          case rel => exact ⟨i, j + 1, by omega, by omega, rfl, by go_num, HN, HK2⟩
          case measure => simp [intOf]; omega
        | false =>
          obtain ⟨y, gt, hgt⟩ : ∃ y gt, gs = y :: gt := by
            cases gs with
            | nil => have := HGS.out.2; simp at this; omega
            | cons y gt => exact ⟨y, gt, rfl⟩
          have hset := own_put1 HO2.out (i := i) (v := .int .i64 x) (by omega)
          have e : (ints (F ++ gs ++ x :: l.drop (j + 1))).set i (.int .i64 x) = ints ((l.take (j + 1)).filter (fun v => !pred v) ++ (gt ++ [x]) ++ l.drop (j + 1)) := by
            rw [HF1.out, hgt]
            simp only [List.filter_cons, hp, Bool.not_false, if_true, List.filter_nil]
            unfold ints
            rw [← List.map_set, List.append_assoc, List.set_append_right _ _ (by have := HGS.out.1; omega)]
            have h0 : i - F.length = 0 := by have := HGS.out.1; omega
            rw [h0]
            simp
          rw [e] at hset
          have HN := Lib.hid (show ∃ gs : List Int, (w2.setCell ⟨g, i, none⟩ (.int .i64 x)).ownsRow base 3 1 (.slice (some ⟨g, 0, none⟩) n c) n (ints ((l.take (j + 1)).filter (fun v => !pred v) ++ gs ++ l.drop (j + 1))) ∧ ((l.take (j + 1)).filter (fun v => !pred v)).length = i + 1 ∧ (i + 1) + gs.length = j + 1 from
            ⟨gt ++ [x], hset, by rw [HF1.out]; simp [hp]; exact HGS.out.1, by have := HGS.out.2; rw [hgt] at this; simp at this ⊢; omega⟩)
          have HK3 := Lib.hid (show Kp (fun b => decide ((Value.slice (some ⟨g, 0, none⟩) n c).ownBlock ≠ some b)) w (w2.setCell ⟨g, i, none⟩ (.int .i64 x)) from HK2.out.set (decide_eq_false fun h => h rfl) i _)
          have hc2 : (w2.cell? ⟨g, i, none⟩).isSome = true := own_some HO2.out (by omega)
          obtain ⟨vo, hvo⟩ := Option.isSome_iff_exists.1 hc2
          have hfr : w2.frozen? ⟨g, i, none⟩ = false := own_frozen HO2.out i
          clear hp e hset hgt hc2
          go_wp2_with (fail)
          go_roundw
          case rel => exact ⟨i + 1, j + 1, by omega, by omega, by go_num, by go_num, HN, HK3⟩
          case measure => simp [intOf]; omega
      · obtain rfl : j = n := by omega
        have hdl : l.drop j = [] := List.drop_eq_nil_of_le (by omega)
        have htk : l.take j = l := List.take_of_length_le (by omega)
        rw [hdl, htk, List.append_nil] at hg1
        rw [htk] at hg2
        obtain ⟨F, hF⟩ : ∃ F, F = l.filter (fun v => !pred v) := ⟨_, rfl⟩
        rw [← hF] at hg1 hg2
        have hclr := own_clear hg1 (i := i) (by omega)
        obtain ⟨hc1, hc2, hc3⟩ := hclr
        have htake : (ints (F ++ gs)).take (i * 1) = ints F := by
          unfold ints
          rw [Nat.mul_one, ← List.map_take, ← hg2, List.take_left]
        rw [htake] at hc1
        have hiI : (i : Int) ≤ (j : Int) := by omega
        have hiC : (i : Int) ≤ (c : Int) := by omega
        have hrun := run_clear_slice (P := Tryd.prog) wr 31 3 0 (.int .i64 0) rfl zeroInt rfl rfl g i (j - i) (c - i) (by omega) (fun k hk => own_some hg1 (by omega)) (fun k hk => own_frozen hg1 _)
        have HFIN := Lib.hid (show (Ending.returned (.slice (some ⟨g, 0, none⟩) i c) = .returned (.slice (some ⟨g, 0, none⟩) (l.filter fun v => !pred v).length c)) ∧ (wr.setCells g i (List.replicate (j - i) (.int .i64 0))).ownsRow base 3 1 (.slice (some ⟨g, 0, none⟩) (l.filter fun v => !pred v).length c) (l.filter fun v => !pred v).length (ints (l.filter fun v => !pred v)) ∧ Kp (fun b => decide ((Value.slice (some ⟨g, 0, none⟩) j c).ownBlock ≠ some b)) w (wr.setCells g i (List.replicate (j - i) (.int .i64 0))) from by
          rw [← hF, hg2]; exact ⟨rfl, hc1, HK.out.trans hc2⟩)
        have HRUN := Lib.hid hrun
        clear hc1 hc2 hc3 hg1 hg2 hg3 htake hdl htk hrun hF HG HK hnl
        go_upto_region 11 with (fail)
        have hrun := HRUN.out
        go_wp2_with (fail)
        exact bodyPost_ret (by simp [results, Tryd.results55, go_sem]) rfl HFIN.out
end Types
end Go.Proofs.YtjchplgapaeagaaDoor
