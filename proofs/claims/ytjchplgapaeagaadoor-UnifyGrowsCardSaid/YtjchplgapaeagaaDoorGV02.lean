/-Unification: mathematics: two names of a trial become one. Unification: mathematics: the three ways in which two names become one. -/
import Derived.Test.YtjchplgapaeagaaDoorGV01
namespace Go.Proofs.YtjchplgapaeagaaDoor
set_option linter.unusedVariables false
namespace Types

/-- Names, once hi is called lo. -/
def nmU (nm : Nat → Nat) (lo hi : Nat) (v : Nat) : Nat := if nm v = hi then lo else nm v
def stU (st : Nat → Option Ty) (lo hi : Nat) (T : Option Ty) : Nat → Option Ty := upd (upd st hi none) lo T
def gU (g : Nat → Bool) (lo hi : Nat) (v : Nat) : Bool := g v || (decide (v = lo) && g hi)
theorem gU_of {g : Nat → Bool} {lo hi v : Nat} (h : g v = true) : gU g lo hi v = true := by unfold gU; rw [h]; rfl
theorem gU_lo {g : Nat → Bool} {lo hi : Nat} (h : g hi = true) : gU g lo hi lo = true := by unfold gU; rw [h]; simp
theorem gU_cases {g : Nat → Bool} {lo hi v : Nat} (h : gU g lo hi v = true) : g v = true ∨ (v = lo ∧ g hi = true) := by
  unfold gU at h
  rw [Bool.or_eq_true, Bool.and_eq_true] at h
  exact h.imp _root_.id fun x => ⟨of_decide_eq_true x.1, x.2⟩
section
variable {n0 : Nat} {nm0 : Nat → Nat} {st0 : Nat → Option Ty} {σ0 : Nat → Ty} {n1 : Nat} {G : (Nat → Ty) → Prop}
    {N : Nat} {nm : Nat → Nat} {st : Nat → Option Ty} {O : Nat → Ty} {par pos : Nat → Nat} {row : List (Nat × Nat)} {joined : List Nat} {g : Nat → Bool}
theorem stU_cases {lo hi : Nat} {T : Option Ty} (hlh : lo ≠ hi) {v : Nat} {t : Ty} (h : stU st lo hi T v = some t) : (v = lo ∧ T = some t) ∨ (v ≠ lo ∧ v ≠ hi ∧ st v = some t) := by
  unfold stU at h
  by_cases e : v = lo
  · subst e; rw [upd_same] at h; exact .inl ⟨rfl, h⟩
  · rw [upd_other _ _ e] at h
    by_cases e' : v = hi
    · subst e'; rw [upd_same] at h; cases h
    · rw [upd_other _ _ e'] at h; exact .inr ⟨e, e', h⟩
theorem stU_lo {lo hi : Nat} {T : Option Ty} : stU st lo hi T lo = T := upd_same _ _ _
theorem stU_hi {lo hi : Nat} {T : Option Ty} (hlh : lo ≠ hi) : stU st lo hi T hi = none := by unfold stU; rw [upd_other _ _ hlh.symm, upd_same]
theorem stU_other {lo hi : Nat} {T : Option Ty} {v : Nat} (h1 : v ≠ lo) (h2 : v ≠ hi) : stU st lo hi T v = st v := by unfold stU; rw [upd_other _ _ h1, upd_other _ _ h2]
theorem TrI.merge (h : TrI n0 nm0 st0 σ0 n1 G N nm st O par pos row joined g) {x y lo hi : Nat} {rest extra : List (Nat × Nat)} {T : Option Ty} {row' : List (Nat × Nat)} {joined' : List Nat}
    (hr : ∀ p, p ∈ row ↔ p ∈ rest ∨ p = (x, y)) (hr' : ∀ p, p ∈ row' ↔ p ∈ rest ∨ p ∈ extra) (hj' : ∀ v, v ∈ joined' ↔ v ∈ joined ∨ v = lo ∨ v = hi)
    (hlt : lo < hi) (hxy : (nm x = lo ∧ nm y = hi) ∨ (nm x = hi ∧ nm y = lo)) (hn0 : ∀ v, nm0 v ≤ v)
    (t1 : ∀ t, T = some t → mayT t = true ∧ t.h.k ≠ 5 ∧ (∀ w ∈ varsT t, w < N ∧ (n1 ≤ w ∨ (w < n0 ∧ g (nm0 w) = true))) ∧ ((∀ w ∈ varsT t, w < n0) ∨ ∀ u ∈ t.ks, u.h.k = 5))
    (t2 : ∀ θ : Nat → Ty, (∀ v, θ v = θ (nmU nm lo hi v)) → (∀ v t, v ≠ lo → v ≠ hi → st v = some t → θ v = inst θ t) →
      (((∀ t, st lo = some t → θ lo = inst θ t) ∧ (∀ t, st hi = some t → θ lo = inst θ t)) ↔ ((∀ t, T = some t → θ lo = inst θ t) ∧ ∀ p ∈ extra, θ p.1 = θ p.2)))
    (t3 : ∀ c t, (c = lo ∨ c = hi) → st c = some t → ∃ t', T = some t' ∧ t'.h = t.h ∧ t'.ks.length = t.ks.length ∧ ∀ j, j < t.ks.length → ∀ d, AgK n0 σ0 N nm O row (tget t.ks j) d → AgK n0 σ0 N (nmU nm lo hi) O row' (tget t'.ks j) d)
    (t4 : T ≠ none → st lo ≠ none ∨ st hi ≠ none)
    (t5 : ∀ t, T = some t → ∀ j a, j < t.ks.length → tget t.ks j = tyV a → n0 ≤ a → n1 ≤ a ∧ nmU nm lo hi (par a) = lo ∧ pos a = j)
    (t6 : ∀ p ∈ extra, p.1 < N ∧ p.2 < N ∧ (n1 ≤ p.1 ∨ (p.1 < n0 ∧ g (nm0 p.1) = true)) ∧ (n1 ≤ p.2 ∨ (p.2 < n0 ∧ g (nm0 p.2) = true)) ∧ (n1 ≤ p.1 → n1 ≤ p.2 → nmU nm lo hi (par p.1) = nmU nm lo hi (par p.2) ∧ pos p.1 = pos p.2)) :
    TrI n0 nm0 st0 σ0 n1 G N (nmU nm lo hi) (stU st lo hi T) O par pos row' joined' (gU g lo hi) := by
  have hxyr : (x, y) ∈ row := (hr _).2 (.inr rfl)
  obtain ⟨hxN, hyN⟩ := h.rowlt _ hxyr
  have hxN : x < N := hxN
  have hyN : y < N := hyN
  have hloN : lo < N := by rcases hxy with ⟨a, _⟩ | ⟨_, a⟩ <;> rw [← a] <;> exact Nat.lt_of_le_of_lt (h.le _) (by assumption)
  have hhiN : hi < N := by rcases hxy with ⟨_, a⟩ | ⟨a, _⟩ <;> rw [← a] <;> exact Nat.lt_of_le_of_lt (h.le _) (by assumption)
  have hnl : nm lo = lo := by rcases hxy with ⟨a, _⟩ | ⟨_, a⟩ <;> rw [← a] <;> exact h.id _
  have hnh : nm hi = hi := by rcases hxy with ⟨_, a⟩ | ⟨a, _⟩ <;> rw [← a] <;> exact h.id _
  have hlh : lo ≠ hi := by omega
  have hsub : ∀ p ∈ rest, p ∈ row := fun p hp => (hr p).2 (.inl hp)
  have hU : ∀ v, (nm v = hi ∧ nmU nm lo hi v = lo) ∨ (nm v ≠ hi ∧ nmU nm lo hi v = nm v) := fun v => by
    unfold nmU
    by_cases e : nm v = hi
    · exact .inl ⟨e, if_pos e⟩
    · exact .inr ⟨e, if_neg e⟩
  have hUeq : ∀ a b, nm a = nm b → nmU nm lo hi a = nmU nm lo hi b := fun a b e => by unfold nmU; rw [e]
  have hUlo : nmU nm lo hi lo = lo := by unfold nmU; rw [hnl, if_neg hlh]
  have hUhi : nmU nm lo hi hi = lo := by unfold nmU; rw [hnh, if_pos rfl]
  have hUxy : nmU nm lo hi x = nmU nm lo hi y := by
    unfold nmU
    rcases hxy with ⟨a, b⟩ | ⟨a, b⟩ <;> rw [a, b, if_neg hlh, if_pos rfl]
  have hKl : ∀ v, (n1 ≤ v ∨ (v < n0 ∧ gU g lo hi (nm0 v) = true)) → (n1 ≤ v ∨ (v < n0 ∧ g (nm0 v) = true)) ∨ (nm v = lo ∧ v < n0 ∧ g hi = true) := fun v hv => by
    rcases hv with hv | ⟨hv, hg⟩
    · exact .inl (.inl hv)
    · rcases gU_cases hg with hg | ⟨e, hg⟩
      · exact .inl (.inr ⟨hv, hg⟩)
      · refine .inr ⟨?_, hv, hg⟩
        rw [← h.ref v, e, hnl]
  have hEqv : ∀ u u', Eqv nm row u u' → Eqv (nmU nm lo hi) row' u u' := fun u u' he c c1 c2 => by
    refine he c (fun v => ?_) fun p hp => ?_
    · rw [c1 v]
      rcases hU v with ⟨e, e'⟩ | ⟨e, e'⟩
      · rw [e', e, c1 hi, hUhi]
      · rw [e']
    · rcases (hr p).1 hp with hp | rfl
      · exact c2 p ((hr' p).2 (.inl hp))
      · show c x = c y
        rw [c1 x, c1 y, hUxy]
  refine ⟨h.n01, h.n011, fun v => ?_, fun v => ?_, fun v hv => ?_, fun v => ?_, h.und, fun v a b => ?_, fun v t ht => ?_, fun v t ht => ?_, fun p hp => ?_, fun p hp => ?_, fun v a b d => ?_, fun v a b d => ?_, fun θ => ?_, fun v hv hd => ?_, fun v t ht => ?_, fun w hw hn hc => ?_, fun w hw hw0 => ?_, fun c t ht j a hj ha han => ?_, fun a b a1 a2 b1 b2 e en => ?_, fun p hp a b => ?_⟩
  · rcases hU v with ⟨e, e'⟩ | ⟨e, e'⟩
    · have := h.le v; omega
    · rw [e']; exact h.le v
  · rcases hU v with ⟨e, e'⟩ | ⟨e, e'⟩
    · rw [e', hUlo]
    · rw [e']; unfold nmU; rw [h.id, if_neg e]
  · obtain ⟨a, b⟩ := h.out v hv
    refine ⟨?_, ?_⟩
    · unfold nmU; rw [a, if_neg (by omega)]
    · rw [stU_other (by omega) (by omega)]; exact b
  · exact hUeq _ _ (h.ref v)
  · obtain ⟨x1, x2, x3⟩ := h.own v a b
    exact ⟨x1, x2, fun w hw => ⟨(x3 w hw).1, gU_of (x3 w hw).2⟩⟩
  · rcases stU_cases hlh ht with ⟨rfl, hT⟩ | ⟨e1, e2, hs⟩
    · obtain ⟨x1, x2, x3, _⟩ := t1 t hT
      exact ⟨hUlo, hloN, x1, x2, fun w hw => ⟨(x3 w hw).1, (x3 w hw).2.imp _root_.id fun q => ⟨q.1, gU_of q.2⟩⟩⟩
    · obtain ⟨x1, x2, x3, x4, x5⟩ := h.name v t hs
      refine ⟨?_, x2, x3, x4, fun w hw => ⟨(x5 w hw).1, (x5 w hw).2.imp _root_.id fun q => ⟨q.1, gU_of q.2⟩⟩⟩
      unfold nmU; rw [x1, if_neg e2]
  · rcases stU_cases hlh ht with ⟨rfl, hT⟩ | ⟨e1, e2, hs⟩
    · exact (t1 t hT).2.2.2
    · exact h.flat v t hs
  · rcases (hr' p).1 hp with hp | hp
    · exact h.rowlt p (hsub p hp)
    · exact ⟨(t6 p hp).1, (t6 p hp).2.1⟩
  · rcases (hr' p).1 hp with hp | hp
    · exact (h.rowk p (hsub p hp)).imp (fun q => ⟨q.1.imp _root_.id fun z => ⟨z.1, gU_of z.2⟩, q.2.imp _root_.id fun z => ⟨z.1, gU_of z.2⟩⟩) _root_.id
    · obtain ⟨_, _, q1, q2, _⟩ := t6 p hp
      exact .inl ⟨q1.imp _root_.id fun z => ⟨z.1, gU_of z.2⟩, q2.imp _root_.id fun z => ⟨z.1, gU_of z.2⟩⟩
  · -- what lies within types is marked
    rcases hKl v b with hb | ⟨e, _, hg⟩
    · rcases hU v with ⟨e, e'⟩ | ⟨e, e'⟩
      · rw [e'] at d ⊢
        rcases h.rowk _ hxyr with ⟨kx, ky⟩ | ⟨kx, ky⟩
        · rcases hxy with ⟨q1, q2⟩ | ⟨q1, q2⟩
          · exact gU_of (by have := h.h1 x hxN kx (by rw [q1]; exact d); rwa [q1] at this)
          · exact gU_of (by have := h.h1 y hyN ky (by rw [q2]; exact d); rwa [q2] at this)
        · refine gU_lo ?_
          have kx : x < n1 := kx
          have ky : y < n1 := ky
          rcases Nat.lt_or_ge hi n0 with hh | hh
          · rw [← e]; exact h.h1 v a hb (by rw [e]; exact hh)
          · exfalso
            have hvn : n1 ≤ v := by
              rcases hb with hb | ⟨hb, _⟩
              · exact hb
              · have := h.le v; omega
            have := h.h2 v hvn a (by omega)
            have l1 := h.le x
            have l2 := h.le y
            rcases hxy with ⟨q1, q2⟩ | ⟨q1, q2⟩ <;> omega
      · rw [e'] at d ⊢
        exact gU_of (h.h1 v a hb d)
    · have e' : nmU nm lo hi v = lo := by unfold nmU; rw [e, if_neg hlh]
      rw [e']; exact gU_lo hg
  · rcases hU v with ⟨e, e'⟩ | ⟨e, e'⟩
    · rw [e'] at d ⊢
      have hv1 : n1 ≤ hi := by have := h.h2 v a b (by omega); omega
      have l1 := h.le x
      have l2 := h.le y
      rcases h.rowk _ hxyr with ⟨kx, ky⟩ | ⟨kx, ky⟩
      · have kx : n1 ≤ x ∨ (x < n0 ∧ g (nm0 x) = true) := kx
        have ky : n1 ≤ y ∨ (y < n0 ∧ g (nm0 y) = true) := ky
        rcases hxy with ⟨q1, q2⟩ | ⟨q1, q2⟩
        · have := h.h2 x (by omega) hxN (by omega); omega
        · have := h.h2 y (by omega) hyN (by omega); omega
      · have kx : x < n1 := kx
        have ky : y < n1 := ky
        rcases hxy with ⟨q1, q2⟩ | ⟨q1, q2⟩ <;> omega
    · rw [e'] at d ⊢
      exact h.h2 v a b d
  · rw [h.sol θ]
    constructor
    · rintro ⟨⟨s1, s2⟩, s3⟩
      have s4 : θ lo = θ hi := by
        have := s3 _ hxyr
        have this : θ x = θ y := this
        rw [s1 x, s1 y] at this
        rcases hxy with ⟨q1, q2⟩ | ⟨q1, q2⟩
        · rw [q1, q2] at this; exact this
        · rw [q1, q2] at this; exact this.symm
      have s5 : ∀ v, θ v = θ (nmU nm lo hi v) := fun v => by
        rcases hU v with ⟨e, e'⟩ | ⟨e, e'⟩
        · rw [e', s1 v, e, s4]
        · rw [e']; exact s1 v
      have s6 := (t2 θ s5 fun v t _ _ hs => s2 v t hs).1 ⟨fun t ht => s2 lo t ht, fun t ht => by rw [s4]; exact s2 hi t ht⟩
      refine ⟨⟨s5, fun v t ht => ?_⟩, fun p hp => ?_⟩
      · rcases stU_cases hlh ht with ⟨rfl, hT⟩ | ⟨e1, e2, hs⟩
        · exact s6.1 t hT
        · exact s2 v t hs
      · rcases (hr' p).1 hp with hp | hp
        · exact s3 p (hsub p hp)
        · exact s6.2 p hp
    · rintro ⟨⟨s1, s2⟩, s3⟩
      have s4 : θ lo = θ hi := by rw [s1 hi, hUhi]
      have s5 : ∀ v, θ v = θ (nm v) := fun v => by
        rw [s1 v]
        rcases hU v with ⟨e, e'⟩ | ⟨e, e'⟩
        · rw [e', e]; exact s4
        · rw [e']
      have s6 := (t2 θ s1 fun v t e1 e2 hs => s2 v t (by rw [stU_other e1 e2]; exact hs)).2 ⟨fun t ht => s2 lo t (by rw [stU_lo]; exact ht), fun p hp => s3 p ((hr' p).2 (.inr hp))⟩
      refine ⟨⟨s5, fun v t ht => ?_⟩, fun p hp => ?_⟩
      · by_cases e1 : v = lo
        · subst e1; exact s6.1 t ht
        · by_cases e2 : v = hi
          · subst e2; rw [← s4]; exact s6.2 t ht
          · exact s2 v t (by rw [stU_other e1 e2]; exact ht)
      · rcases (hr p).1 hp with hp | rfl
        · exact s3 p ((hr' p).2 (.inl hp))
        · show θ x = θ y
          rw [s1 x, s1 y, hUxy]
  · obtain ⟨t, z1, z2, z3, z4⟩ := h.ag v hv hd
    have hcase : (nm v = lo ∨ nm v = hi) ∨ (nm v ≠ lo ∧ nm v ≠ hi) := by omega
    rcases hcase with hc | ⟨c1, c2⟩
    · obtain ⟨t', w1, w2, w3, w4⟩ := t3 _ t hc z1
      have eU : nmU nm lo hi v = lo := by
        unfold nmU
        rcases hc with e | e
        · rw [e, if_neg hlh]
        · rw [if_pos e]
      exact ⟨t', by rw [eU, stU_lo]; exact w1, by rw [w2, z2], by rw [w3, z3], fun j hj => w4 j (by omega) _ (z4 j (by omega))⟩
    · have eU : nmU nm lo hi v = nm v := if_neg c2
      exact ⟨t, by rw [eU, stU_other c1 c2]; exact z1, z2, z3, fun j hj => (z4 j hj).grow (Nat.le_refl _) (fun _ _ => rfl) hEqv⟩
  · rcases stU_cases hlh ht with ⟨rfl, hT⟩ | ⟨e1, e2, hs⟩
    · rcases t4 (by rw [hT]; exact Option.some_ne_none _) with hs | hs
      · obtain ⟨t', ht'⟩ := Option.ne_none_iff_exists'.1 hs
        obtain ⟨u, u1, u2, u3⟩ := h.cl _ t' ht'
        exact ⟨u, u1, by unfold nmU; rw [u2, if_neg hlh], u3⟩
      · obtain ⟨t', ht'⟩ := Option.ne_none_iff_exists'.1 hs
        obtain ⟨u, u1, u2, u3⟩ := h.cl _ t' ht'
        exact ⟨u, u1, by unfold nmU; rw [if_pos u2], u3⟩
    · obtain ⟨u, u1, u2, u3⟩ := h.cl v t hs
      exact ⟨u, u1, by unfold nmU; rw [u2, if_neg e2], u3⟩
  · by_cases e1 : w = lo
    · exact (hj' w).2 (.inr (.inl e1))
    · by_cases e2 : w = hi
      · exact (hj' w).2 (.inr (.inr e2))
      · refine (hj' w).2 (.inl (h.jo w hw hn ?_))
        rw [stU_other e1 e2] at hc
        rcases hc with hc | hc
        · refine .inl fun e => hc ?_
          unfold nmU; rw [e, if_neg e2]
        · exact .inr hc
  · rcases (hj' w).1 hw with hw | rfl | rfl
    · exact h.jn w hw hw0
    · have a1 := h.ref w
      rw [hnl] at a1
      have a2 := h.le (nm0 w)
      have a3 := hn0 w
      omega
    · have a1 := h.ref w
      rw [hnh] at a1
      have a2 := h.le (nm0 w)
      have a3 := hn0 w
      omega
  · rcases stU_cases hlh ht with ⟨rfl, hT⟩ | ⟨e1, e2, hs⟩
    · exact t5 t hT j a hj ha han
    · obtain ⟨z1, z2, z3⟩ := h.p1 c t hs j a hj ha han
      refine ⟨z1, ?_, z3⟩
      unfold nmU; rw [z2, if_neg e2]
  · -- of one name: of one parent
    have l1 := h.le x
    have l2 := h.le y
    have key : ∀ a, n1 ≤ a → a < N → nmU nm lo hi a = lo → n0 ≤ lo → n1 ≤ x ∧ n1 ≤ y := fun a q1 q2 q3 q4 => by
      have hna : n1 ≤ nm a := h.h2 a q1 q2 (by rcases hU a with ⟨z, z'⟩ | ⟨z, z'⟩ <;> omega)
      rcases h.rowk _ hxyr with ⟨kx, ky⟩ | ⟨kx, ky⟩
      · have kx : n1 ≤ x ∨ (x < n0 ∧ g (nm0 x) = true) := kx
        have ky : n1 ≤ y ∨ (y < n0 ∧ g (nm0 y) = true) := ky
        rcases hxy with ⟨z1, z2⟩ | ⟨z1, z2⟩ <;> omega
      · have kx : x < n1 := kx
        have ky : y < n1 := ky
        rcases hU a with ⟨z, z'⟩ | ⟨z, z'⟩ <;> rcases hxy with ⟨z1, z2⟩ | ⟨z1, z2⟩ <;> omega
    have one : ∀ a, n1 ≤ a → a < N → nmU nm lo hi a = lo → n0 ≤ lo → nmU nm lo hi (par a) = nmU nm lo hi (par x) ∧ pos a = pos x := fun a q1 q2 q3 q4 => by
      obtain ⟨kx, ky⟩ := key a q1 q2 q3 q4
      obtain ⟨w1, w2⟩ := h.p3 _ hxyr kx ky
      have w1 : nm (par x) = nm (par y) := w1
      have w2 : pos x = pos y := w2
      have hna : nm a = lo ∨ nm a = hi := by rcases hU a with ⟨z, z'⟩ | ⟨z, z'⟩ <;> omega
      rcases hxy with ⟨z1, z2⟩ | ⟨z1, z2⟩
      · rcases hna with z | z
        · obtain ⟨v1, v2⟩ := h.p2 a x q1 q2 kx hxN (by omega) (by omega)
          exact ⟨hUeq _ _ v1, v2⟩
        · obtain ⟨v1, v2⟩ := h.p2 a y q1 q2 ky hyN (by omega) (by omega)
          exact ⟨hUeq _ _ (v1.trans w1.symm), v2.trans w2.symm⟩
      · rcases hna with z | z
        · obtain ⟨v1, v2⟩ := h.p2 a y q1 q2 ky hyN (by omega) (by omega)
          exact ⟨hUeq _ _ (v1.trans w1.symm), v2.trans w2.symm⟩
        · obtain ⟨v1, v2⟩ := h.p2 a x q1 q2 kx hxN (by omega) (by omega)
          exact ⟨hUeq _ _ v1, v2⟩
    by_cases ea : nmU nm lo hi a = lo
    · rw [ea] at en e
      obtain ⟨v1, v2⟩ := one a a1 a2 ea en
      obtain ⟨u1, u2⟩ := one b b1 b2 e.symm en
      exact ⟨v1.trans u1.symm, v2.trans u2.symm⟩
    · have ha : nmU nm lo hi a = nm a := (hU a).elim (fun z => absurd z.2 ea) fun z => z.2
      have hb : nmU nm lo hi b = nm b := (hU b).elim (fun z => absurd (e.trans z.2) ea) fun z => z.2
      obtain ⟨v1, v2⟩ := h.p2 a b a1 a2 b1 b2 (by rw [← ha, ← hb, e]) (by omega)
      exact ⟨hUeq _ _ v1, v2⟩
  · rcases (hr' p).1 hp with hp | hp
    · obtain ⟨v1, v2⟩ := h.p3 p (hsub p hp) a b
      exact ⟨hUeq _ _ v1, v2⟩
    · exact (t6 p hp).2.2.2.2 a b
end
end Types
end Go.Proofs.YtjchplgapaeagaaDoor
namespace Go.Proofs.YtjchplgapaeagaaDoor
set_option linter.unusedVariables false
namespace Types

section
variable {n0 : Nat} {nm0 : Nat → Nat} {st0 : Nat → Option Ty} {σ0 : Nat → Ty} {n1 : Nat} {G : (Nat → Ty) → Prop}
    {N : Nat} {nm : Nat → Nat} {st : Nat → Option Ty} {O : Nat → Ty} {par pos : Nat → Nat} {row : List (Nat × Nat)} {joined : List Nat} {g : Nat → Bool}
theorem TrI.eqvU (h : TrI n0 nm0 st0 σ0 n1 G N nm st O par pos row joined g) {x y lo hi : Nat} {rest extra row' : List (Nat × Nat)}
    (hr : ∀ p, p ∈ row ↔ p ∈ rest ∨ p = (x, y)) (hr' : ∀ p, p ∈ row' ↔ p ∈ rest ∨ p ∈ extra) (hlt : lo < hi) (hxy : (nm x = lo ∧ nm y = hi) ∨ (nm x = hi ∧ nm y = lo)) :
    ∀ u u', Eqv nm row u u' → Eqv (nmU nm lo hi) row' u u' := by
  have hnl : nm lo = lo := by rcases hxy with ⟨a, _⟩ | ⟨_, a⟩ <;> rw [← a] <;> exact h.id _
  have hnh : nm hi = hi := by rcases hxy with ⟨_, a⟩ | ⟨a, _⟩ <;> rw [← a] <;> exact h.id _
  have hlh : lo ≠ hi := by omega
  have hUhi : nmU nm lo hi hi = lo := by unfold nmU; rw [hnh, if_pos rfl]
  have hUxy : nmU nm lo hi x = nmU nm lo hi y := by
    unfold nmU
    rcases hxy with ⟨a, b⟩ | ⟨a, b⟩ <;> rw [a, b, if_neg hlh, if_pos rfl]
  intro u u' he c c1 c2
  refine he c (fun v => ?_) fun p hp => ?_
  · rw [c1 v]
    unfold nmU
    by_cases e : nm v = hi
    · rw [if_pos e, e, c1 hi, hUhi]
    · rw [if_neg e]
  · rcases (hr p).1 hp with hp | rfl
    · exact c2 p ((hr' p).2 (.inl hp))
    · show c x = c y
      rw [c1 x, c1 y, hUxy]
/-- The higher one stands for nothing. -/
theorem TrI.mergeA (h : TrI n0 nm0 st0 σ0 n1 G N nm st O par pos row joined g) {x y lo hi : Nat} {rest : List (Nat × Nat)} {joined' : List Nat}
    (hr : ∀ p, p ∈ row ↔ p ∈ rest ∨ p = (x, y)) (hj' : ∀ v, v ∈ joined' ↔ v ∈ joined ∨ v = lo ∨ v = hi)
    (hlt : lo < hi) (hxy : (nm x = lo ∧ nm y = hi) ∨ (nm x = hi ∧ nm y = lo)) (hn0 : ∀ v, nm0 v ≤ v) (hs : st hi = none) :
    TrI n0 nm0 st0 σ0 n1 G N (nmU nm lo hi) (stU st lo hi (st lo)) O par pos rest joined' (gU g lo hi) := by
  have hE := h.eqvU (extra := []) hr (row' := rest) (fun p => by simp) hlt hxy
  refine h.merge (extra := []) hr (fun p => by simp) hj' hlt hxy hn0 (fun t ht => ?_) (fun θ _ _ => ?_) (fun c t hc hct => ?_) (fun hT => .inl hT) (fun t ht j a hj ha hn => ?_) (fun p hp => by cases hp)
  · obtain ⟨_, _, a, b, c⟩ := h.name lo t ht
    exact ⟨a, b, c, h.flat lo t ht⟩
  · rw [hs]
    constructor
    · rintro ⟨a, _⟩; exact ⟨a, fun p hp => by cases hp⟩
    · rintro ⟨a, _⟩; exact ⟨a, fun t ht => by cases ht⟩
  · rcases hc with rfl | rfl
    · exact ⟨t, hct, rfl, rfl, fun j hj d hd => hd.grow (Nat.le_refl _) (fun _ _ => rfl) hE⟩
    · rw [hs] at hct; cases hct
  · obtain ⟨q1, q2, q3⟩ := h.p1 lo t ht j a hj ha hn
    exact ⟨q1, by unfold nmU; rw [q2, if_neg (by omega)], q3⟩
/-- The lower one stands for nothing. -/
theorem TrI.mergeB (h : TrI n0 nm0 st0 σ0 n1 G N nm st O par pos row joined g) {x y lo hi : Nat} {rest : List (Nat × Nat)} {joined' : List Nat}
    (hr : ∀ p, p ∈ row ↔ p ∈ rest ∨ p = (x, y)) (hj' : ∀ v, v ∈ joined' ↔ v ∈ joined ∨ v = lo ∨ v = hi)
    (hlt : lo < hi) (hxy : (nm x = lo ∧ nm y = hi) ∨ (nm x = hi ∧ nm y = lo)) (hn0 : ∀ v, nm0 v ≤ v) (hs : st lo = none) :
    TrI n0 nm0 st0 σ0 n1 G N (nmU nm lo hi) (stU st lo hi (st hi)) O par pos rest joined' (gU g lo hi) := by
  have hE := h.eqvU (extra := []) hr (row' := rest) (fun p => by simp) hlt hxy
  refine h.merge (extra := []) hr (fun p => by simp) hj' hlt hxy hn0 (fun t ht => ?_) (fun θ _ _ => ?_) (fun c t hc hct => ?_) (fun hT => .inr hT) (fun t ht j a hj ha hn => ?_) (fun p hp => by cases hp)
  · obtain ⟨_, _, a, b, c⟩ := h.name hi t ht
    exact ⟨a, b, c, h.flat hi t ht⟩
  · rw [hs]
    constructor
    · rintro ⟨_, a⟩; exact ⟨a, fun p hp => by cases hp⟩
    · rintro ⟨a, _⟩; exact ⟨fun t ht => (by cases ht), a⟩
  · rcases hc with rfl | rfl
    · rw [hs] at hct; cases hct
    · exact ⟨t, hct, rfl, rfl, fun j hj d hd => hd.grow (Nat.le_refl _) (fun _ _ => rfl) hE⟩
  · obtain ⟨q1, q2, q3⟩ := h.p1 hi t ht j a hj ha hn
    exact ⟨q1, by unfold nmU; rw [q2, if_pos rfl], q3⟩
/-- A kid that is a variable, or one that stands for it. -/
def Opn (st : Nat → Option Ty) (O : Nat → Ty) (n0 n1 N : Nat) (s : Ty) (a : Nat) : Prop :=
  a < N ∧ (s = tyV a ∨ (n1 ≤ a ∧ s.h.k ≠ 5 ∧ st a = some s ∧ O a = s))
/-- Both stand for types of one kind: so their kids are to be one. -/
theorem TrI.mergeC (h : TrI n0 nm0 st0 σ0 n1 G N nm st O par pos row joined g) {x y lo hi : Nat} {rest row' : List (Nat × Nat)} {joined' : List Nat} {t o : Ty} {aa bb : List Nat}
    (hr : ∀ p, p ∈ row ↔ p ∈ rest ∨ p = (x, y)) (hr' : ∀ p, p ∈ row' ↔ p ∈ rest ∨ p ∈ aa.zip bb) (hj' : ∀ v, v ∈ joined' ↔ v ∈ joined ∨ v = lo ∨ v = hi)
    (hlt : lo < hi) (hxy : (nm x = lo ∧ nm y = hi) ∨ (nm x = hi ∧ nm y = lo)) (hn0 : ∀ v, nm0 v ≤ v) (ht : st lo = some t) (ho : st hi = some o) (hk : t.h.k = o.h.k)
    (la : aa.length = t.ks.length) (lb : bb.length = o.ks.length)
    (oa : ∀ j a, aa[j]? = some a → Opn st O n0 n1 N (tget t.ks j) a ∧ ((tget t.ks j).h.k ≠ 5 → a ≠ lo ∧ a ≠ hi ∧ nm (par a) = lo ∧ pos a = j))
    (ob : ∀ j b, bb[j]? = some b → Opn st O n0 n1 N (tget o.ks j) b ∧ ((tget o.ks j).h.k ≠ 5 → b ≠ lo ∧ b ≠ hi ∧ nm (par b) = hi ∧ pos b = j)) :
    TrI n0 nm0 st0 σ0 n1 G N (nmU nm lo hi) (stU st lo hi (some (.node t.h (aa.map tyV)))) O par pos row' joined' (gU g lo hi) := by
  have hE := h.eqvU hr hr' hlt hxy
  obtain ⟨_, _, tm, tk, tv⟩ := h.name lo t ht
  obtain ⟨_, _, om, ok, ov⟩ := h.name hi o ho
  have hh : t.h = o.h := by
    obtain ⟨_, a1, a2, _⟩ := may_node tm
    obtain ⟨_, b1, b2, _⟩ := may_node om
    obtain ⟨⟨k1, v1⟩, l1⟩ := t
    obtain ⟨⟨k2, v2⟩, l2⟩ := o
    simp only [Ty.h] at *
    have : v1 = v2 := by omega
    rw [hk, this]
  have hlen : t.ks.length = o.ks.length := by
    have a := may_B tm
    have b := may_B om
    rw [hh] at a
    unfold nodeB at a b
    have a := (of_decide_eq_true a).1
    have b := (of_decide_eq_true b).1
    omega
  have gas : ∀ j, j < aa.length → ∃ a, aa[j]? = some a := fun j hj => ⟨_, List.getElem?_eq_getElem hj⟩
  have gbs : ∀ j, j < bb.length → ∃ b, bb[j]? = some b := fun j hj => ⟨_, List.getElem?_eq_getElem hj⟩
  have gma : ∀ j a, aa[j]? = some a → tget (aa.map tyV) j = tyV a := fun j a hj => by
    unfold tget
    rw [List.getD_eq_getElem?_getD, List.getElem?_map, hj]; rfl
  -- kid-level
  have kid : ∀ (c : Nat) (u : Ty), st c = some u → ∀ j a, j < u.ks.length → Opn st O n0 n1 N (tget u.ks j) a → a < N ∧ (n1 ≤ a ∨ (a < n0 ∧ g (nm0 a) = true)) := fun c u hc j a hj hO => by
    obtain ⟨ha, hO⟩ := hO
    rcases hO with e | ⟨e, _⟩
    · refine ⟨ha, ((h.name c u hc).2.2.2.2 a ?_).2⟩
      rw [varsT_eq]
      exact List.mem_append_right _ (mem_varsK.2 ⟨_, tget_mem hj, by rw [e, vars_var]; simp⟩)
    · exact ⟨ha, .inl e⟩
  have hzip : ∀ p, p ∈ aa.zip bb → ∃ j, aa[j]? = some p.1 ∧ bb[j]? = some p.2 := fun p hp => by
    obtain ⟨j, hj, e⟩ := List.mem_iff_getElem.1 hp
    rw [List.length_zip] at hj
    refine ⟨j, ?_, ?_⟩
    · rw [List.getElem?_eq_getElem (by omega), ← e]; simp
    · rw [List.getElem?_eq_getElem (by omega), ← e]; simp
  have zipm : ∀ j a b, aa[j]? = some a → bb[j]? = some b → (a, b) ∈ aa.zip bb := fun j a b h1 h2 => by
    refine List.mem_of_getElem? (i := j) ?_
    rw [List.getElem?_zip_eq_some]
    exact ⟨h1, h2⟩
  have jlt : ∀ j (a : Nat), aa[j]? = some a → j < t.ks.length := fun j a hj => by
    have := (List.getElem?_eq_some_iff.1 hj).1; omega
  have jlt' : ∀ j (b : Nat), bb[j]? = some b → j < o.ks.length := fun j a hj => by
    have := (List.getElem?_eq_some_iff.1 hj).1; omega
  -- a kid and its variable
  have ev : ∀ (θ : Nat → Ty), (∀ v t, v ≠ lo → v ≠ hi → st v = some t → θ v = inst θ t) → ∀ s a, Opn st O n0 n1 N s a → (s.h.k ≠ 5 → a ≠ lo ∧ a ≠ hi) → inst θ s = θ a := fun θ hs s a hO h1 => by
    rcases hO.2 with e | ⟨_, e5, e, _⟩
    · rw [e, inst_var]
    · exact (hs a s (h1 e5).1 (h1 e5).2 e).symm
  have ksmap : ∀ (θ : Nat → Ty), (∀ v t, v ≠ lo → v ≠ hi → st v = some t → θ v = inst θ t) → inst θ (.node t.h (aa.map tyV)) = inst θ t := fun θ hs => by
    rw [inst_eq, inst_eq θ t, if_neg tk, if_neg (show ¬ (Ty.node t.h (aa.map tyV)).h.k = 5 from tk)]
    show Ty.node t.h (instK θ (aa.map tyV)) = _
    congr 1
    rw [instK_map, instK_map]
    apply List.ext_getElem?
    intro j
    by_cases hj : j < t.ks.length
    · obtain ⟨a, ha⟩ := gas j (by omega)
      rw [List.getElem?_map, List.getElem?_map, List.getElem?_map, ha, tget_at hj]
      show some (inst θ (tyV a)) = some (inst θ (tget t.ks j))
      obtain ⟨q1, q2⟩ := oa j a ha
      rw [inst_var, ev θ hs _ a q1 fun h => ⟨(q2 h).1, (q2 h).2.1⟩]
    · rw [List.getElem?_eq_none (by simp; omega), List.getElem?_eq_none (by simp; omega)]
  refine h.merge hr hr' hj' hlt hxy hn0 (fun t' ht' => ?_) (fun θ hθ hs => ?_) (fun c u hc hcu => ?_) (fun _ => .inl (by rw [ht]; exact Option.some_ne_none _)) (fun t' ht' j a hj ha hn => ?_) (fun p hp => ?_)
  · cases ht'
    refine ⟨may_mk (by rw [List.length_map, la]; exact may_B tm) (fun u hu => ?_), tk, fun w hw => ?_, .inr fun u hu => ?_⟩
    · obtain ⟨a, _, rfl⟩ := List.mem_map.1 hu
      exact may_V a
    · rw [varsT_eq, if_neg (show ¬ (Ty.node t.h (aa.map tyV)).h.k = 5 from tk), List.nil_append] at hw
      obtain ⟨u, hu, hwu⟩ := mem_varsK.1 hw
      obtain ⟨a, ha, rfl⟩ := List.mem_map.1 hu
      rw [vars_var, List.mem_singleton] at hwu
      subst hwu
      obtain ⟨j, hj⟩ := List.mem_iff_getElem?.1 ha
      exact kid lo t ht j w (jlt j w hj) (oa j w hj).1
    · obtain ⟨a, _, rfl⟩ := List.mem_map.1 hu
      rfl
  · rw [ht, ho]
    have e1 := ksmap θ hs
    constructor
    · rintro ⟨q1, q2⟩
      have q1 := q1 t rfl
      have q2 := q2 o rfl
      refine ⟨fun t' ht' => by cases ht'; rw [e1]; exact q1, fun p hp => ?_⟩
      obtain ⟨j, ja, jb⟩ := hzip p hp
      have hj := jlt j _ ja
      have hj' := jlt' j _ jb
      have e2 : inst θ t = inst θ o := q1.symm.trans q2
      have e3 := congrArg Ty.ks e2
      rw [(inst_head tk).2, (inst_head ok).2] at e3
      have e4 := congrArg (fun l => tget l j) e3
      simp only [tget_map hj, tget_map hj'] at e4
      obtain ⟨a1, a2⟩ := oa j _ ja
      obtain ⟨b1, b2⟩ := ob j _ jb
      rw [ev θ hs _ _ a1 (fun h => ⟨(a2 h).1, (a2 h).2.1⟩), ev θ hs _ _ b1 (fun h => ⟨(b2 h).1, (b2 h).2.1⟩)] at e4
      exact e4
    · rintro ⟨q1, q2⟩
      have q1 := q1 _ rfl
      rw [e1] at q1
      refine ⟨fun t' ht' => by cases ht'; exact q1, fun t' ht' => ?_⟩
      cases ht'
      rw [q1, inst_eq, inst_eq, if_neg tk, if_neg ok, hh]
      congr 1
      rw [instK_map, instK_map]
      apply List.ext_getElem?
      intro j
      by_cases hj : j < t.ks.length
      · obtain ⟨a, ha⟩ := gas j (by omega)
        obtain ⟨b, hb⟩ := gbs j (by omega)
        rw [List.getElem?_map, List.getElem?_map, tget_at hj, tget_at (by omega)]
        obtain ⟨a1, a2⟩ := oa j _ ha
        obtain ⟨b1, b2⟩ := ob j _ hb
        show some (inst θ (tget t.ks j)) = some (inst θ (tget o.ks j))
        rw [ev θ hs _ _ a1 (fun h => ⟨(a2 h).1, (a2 h).2.1⟩), ev θ hs _ _ b1 (fun h => ⟨(b2 h).1, (b2 h).2.1⟩)]
        exact congrArg some (q2 _ (zipm j a b ha hb))
      · rw [List.getElem?_eq_none (by simp; omega), List.getElem?_eq_none (by simp; omega)]
  · -- what kids were, they are
    have agOne : ∀ s a d, mayT s = true → Opn st O n0 n1 N s a → AgK n0 σ0 N nm O row s d → ∃ u', u' < N ∧ Eqv nm row a u' ∧ inst σ0 (O u') = d := fun s a d hm hO hd => by
      rcases hO.2 with e | ⟨e1, e2, e3, e4⟩
      · rcases hd with ⟨u, q1, u', q2, q3, q4⟩ | ⟨q1, _⟩
        · rw [e] at q1
          have := tyV_inj q1
          subst this
          exact ⟨u', q2, q3, q4⟩
        · rw [e] at q1; exact absurd rfl q1
      · rcases hd with ⟨u, q1, _⟩ | ⟨_, _, _, q⟩
        · rw [q1] at e2; exact absurd rfl e2
        · exact ⟨a, hO.1, Eqv.refl _ _ _, by rw [e4]; exact q⟩
    rcases hc with rfl | rfl
    · rw [ht] at hcu; cases hcu
      refine ⟨_, rfl, rfl, by show (aa.map tyV).length = _; simp [la], fun j hj d hd => ?_⟩
      obtain ⟨a, ha⟩ := gas j (by omega)
      obtain ⟨u', q1, q2, q3⟩ := agOne _ a d (may_mem tm (tget_mem hj)) (oa j a ha).1 hd
      exact .inl ⟨a, gma j a ha, u', q1, hE _ _ q2, q3⟩
    · rw [ho] at hcu; cases hcu
      refine ⟨_, rfl, hh, by show (aa.map tyV).length = _; simp [la, hlen], fun j hj d hd => ?_⟩
      obtain ⟨a, ha⟩ := gas j (by omega)
      obtain ⟨b, hb⟩ := gbs j (by omega)
      obtain ⟨u', q1, q2, q3⟩ := agOne _ b d (may_mem om (tget_mem hj)) (ob j b hb).1 hd
      refine .inl ⟨a, gma j a ha, u', q1, fun c c1 c2 => ?_, q3⟩
      have z1 : c a = c b := c2 _ ((hr' _).2 (.inr (zipm j a b ha hb)))
      exact z1.trans (hE _ _ q2 c c1 c2)
  · cases ht'
    have hj' : j < t.ks.length := by have : j < (aa.map tyV).length := hj; simp at this; omega
    obtain ⟨a', ha'⟩ := gas j (by omega)
    have e : tyV a' = tyV a := (gma j a' ha').symm.trans ha
    have := tyV_inj e
    subst this
    obtain ⟨q1, q4⟩ := oa j a' ha'
    have hlo : ∀ v, nm v = lo → nmU nm lo hi v = lo := fun v e => by unfold nmU; rw [e, if_neg (by omega)]
    rcases q1.2 with e | ⟨e1, e2, _, _⟩
    · obtain ⟨z1, z2, z3⟩ := h.p1 lo t ht j a' hj' e hn
      exact ⟨z1, hlo _ z2, z3⟩
    · exact ⟨e1, hlo _ (q4 e2).2.2.1, (q4 e2).2.2.2⟩
  · obtain ⟨j, ja, jb⟩ := hzip p hp
    have hj := jlt j _ ja
    have hj' := jlt' j _ jb
    obtain ⟨a1, a4⟩ := oa j _ ja
    obtain ⟨b1, b4⟩ := ob j _ jb
    obtain ⟨ka, kb⟩ := kid lo t ht j _ hj a1
    obtain ⟨kc, kd⟩ := kid hi o ho j _ hj' b1
    refine ⟨ka, kc, kb, kd, fun u1 u2 => ?_⟩
    have ea : nm (par p.1) = lo ∧ pos p.1 = j := by
      rcases a1.2 with e | ⟨_, e2, _, _⟩
      · have := h.p1 lo t ht j p.1 hj e (by have := h.n011; omega); exact this.2
      · exact (a4 e2).2.2
    have eb : nm (par p.2) = hi ∧ pos p.2 = j := by
      rcases b1.2 with e | ⟨_, e2, _, _⟩
      · have := h.p1 hi o ho j p.2 hj' e (by have := h.n011; omega); exact this.2
      · exact (b4 e2).2.2
    refine ⟨?_, by rw [ea.2, eb.2]⟩
    unfold nmU
    rw [ea.1, eb.1, if_neg (by omega), if_pos rfl]
end
end Types
end Go.Proofs.YtjchplgapaeagaaDoor
