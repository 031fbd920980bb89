/-Unification: mathematics: what stands in a variable's place, what solves, and that there is but one sense. Unification: mathematics: names of variables, and what they stand for. Unification: mathematics: a trial over a book: parts that are looked at, names that become one. -/
import Derived.Test.YtjchplgapaeagaaDoorGV00
namespace Go.Proofs.YtjchplgapaeagaaDoor
set_option linter.unusedVariables false
namespace Types

/-- A variable. -/
def tyV (v : Nat) : Ty := .node ⟨5, v⟩ []
theorem tyV_inj {v w : Nat} (h : tyV v = tyV w) : v = w := by
  unfold tyV at h
  injection h with h
  injection h with _ h
  omega
mutual
/-- A type with others in its variables' places. -/
def inst (θ : Nat → Ty) : Ty → Ty
  | .node h l => if h.k = 5 then θ h.v.toNat else .node h (instK θ l)
def instK (θ : Nat → Ty) : List Ty → List Ty
  | [] => []
  | t :: ts => inst θ t :: instK θ ts
end
mutual
/-- The variables of a type, in their order. -/
def varsT : Ty → List Nat
  | .node h l => (if h.k = 5 then [h.v.toNat] else []) ++ varsK l
def varsK : List Ty → List Nat
  | [] => []
  | t :: ts => varsT t ++ varsK ts
end
theorem inst_eq (θ : Nat → Ty) (t : Ty) : inst θ t = if t.h.k = 5 then θ t.h.v.toNat else .node t.h (instK θ t.ks) := by
  cases t
  conv => lhs; unfold inst
  rfl
theorem instK_nil (θ : Nat → Ty) : instK θ [] = [] := by unfold instK; rfl
theorem instK_cons (θ : Nat → Ty) (t : Ty) (ts : List Ty) : instK θ (t :: ts) = inst θ t :: instK θ ts := by conv => lhs; unfold instK
theorem instK_map (θ : Nat → Ty) : ∀ ts, instK θ ts = ts.map (inst θ)
  | [] => instK_nil θ
  | t :: ts => by rw [instK_cons, instK_map θ ts]; rfl
theorem instK_len (θ : Nat → Ty) (ts : List Ty) : (instK θ ts).length = ts.length := by rw [instK_map]; simp
theorem varsT_eq (t : Ty) : varsT t = (if t.h.k = 5 then [t.h.v.toNat] else []) ++ varsK t.ks := by
  cases t
  conv => lhs; unfold varsT
  rfl
theorem varsK_nil : varsK [] = [] := by unfold varsK; rfl
theorem varsK_cons (t : Ty) (ts : List Ty) : varsK (t :: ts) = varsT t ++ varsK ts := by conv => lhs; unfold varsK
theorem varsK_map : ∀ ts, varsK ts = ts.flatMap varsT
  | [] => varsK_nil
  | t :: ts => by rw [varsK_cons, varsK_map ts]; rfl
theorem mem_varsK {v : Nat} {ts : List Ty} : v ∈ varsK ts ↔ ∃ t ∈ ts, v ∈ varsT t := by rw [varsK_map, List.mem_flatMap]
theorem inst_var (θ : Nat → Ty) (v : Nat) : inst θ (tyV v) = θ v := by
  rw [inst_eq, if_pos (show (tyV v).h.k = 5 from rfl)]; rfl
theorem vars_var (v : Nat) : varsT (tyV v) = [v] := by
  rw [varsT_eq, if_pos (show (tyV v).h.k = 5 from rfl)]
  show [_] ++ varsK [] = _
  rw [varsK_nil]; rfl
/-- A variable that may be. -/
theorem is_var {t : Ty} (hm : mayT t = true) (h : t.h.k = 5) : t = tyV t.h.v.toNat := by
  obtain ⟨⟨k, v⟩, l⟩ := t
  obtain ⟨h1, h2, h3, h4⟩ := may_node hm
  simp only [Ty.h, Ty.ks] at *
  subst h
  have hl : l.length = 0 := by
    rcases h1 with ⟨_, h⟩ | ⟨h, _⟩ | ⟨h, _⟩
    · exact h
    · omega
    · omega
  rw [List.eq_nil_of_length_eq_zero hl]
  unfold tyV
  have : v = ((v.toNat : Nat) : Int) := by omega
  rw [← this]
theorem var_in {t : Ty} {v : Nat} (e : t = tyV v) : v ∈ varsT t := by rw [e, vars_var]; simp
/-- Induction on a type, by its kids. -/
theorem ty_rec {P : Ty → Prop} (h : ∀ t, (∀ u ∈ t.ks, P u) → P t) (t : Ty) : P t := by
  suffices ∀ m t, wt t ≤ m → P t from this _ t (Nat.le_refl _)
  intro m
  induction m with
  | zero => intro t ht; have := wt_pos t; omega
  | succ m ih =>
    intro t ht
    refine h t fun u hu => ih u ?_
    have := wts_mem hu
    have := wt_ks t
    omega
theorem inst_congr {θ ψ : Nat → Ty} : ∀ t, (∀ v ∈ varsT t, θ v = ψ v) → inst θ t = inst ψ t := by
  refine ty_rec fun t ih h => ?_
  rw [inst_eq, inst_eq]
  rw [varsT_eq] at h
  split
  · rename_i hk
    exact h _ (by rw [if_pos hk]; simp)
  · rw [instK_map, instK_map]
    congr 1
    refine List.map_congr_left fun u hu => ih u hu fun v hv => h v ?_
    exact List.mem_append_right _ (mem_varsK.2 ⟨u, hu, hv⟩)
theorem inst_inst (θ σ : Nat → Ty) : ∀ t, inst θ (inst σ t) = inst (fun v => inst θ (σ v)) t := by
  refine ty_rec fun t ih => ?_
  rw [inst_eq σ t, inst_eq (fun v => inst θ (σ v)) t]
  split
  · rfl
  · rename_i hk
    rw [inst_eq θ]
    rw [if_neg (show ¬ (Ty.node t.h (instK σ t.ks)).h.k = 5 from hk)]
    show Ty.node t.h (instK θ (instK σ t.ks)) = _
    rw [instK_map, instK_map, instK_map, List.map_map]
    congr 1
    exact List.map_congr_left fun u hu => ih u hu
theorem may_mem {t u : Ty} (h : mayT t = true) (hu : u ∈ t.ks) : mayT u = true := by
  obtain ⟨i, hi, rfl⟩ := List.mem_iff_getElem.1 hu
  have := may_kid h hi
  have e := tget_at hi
  rw [List.getElem?_eq_getElem hi] at e
  rwa [Option.some.inj e]
theorem mayK_of {ts : List Ty} (h : ∀ u ∈ ts, mayT u = true) : mayK ts = true := by
  induction ts with
  | nil => exact allK_nil _
  | cons t ts ih => rw [show mayK (t :: ts) = (mayT t && mayK ts) from allK_cons _ t ts, h t (by simp), Bool.true_and]; exact ih fun u hu => h u (by simp [hu])
theorem may_mk {h : Hd} {l : List Ty} (hn : nodeB h l.length = true) (hl : ∀ u ∈ l, mayT u = true) : mayT (.node h l) = true := by
  show allT nodeB _ = true
  rw [allT_eq, Bool.and_eq_true]
  exact ⟨hn, mayK_of hl⟩
theorem may_B {t : Ty} (h : mayT t = true) : nodeB t.h t.ks.length = true := by
  change allT nodeB t = true at h
  rw [allT_eq, Bool.and_eq_true] at h
  exact h.1
theorem may_V (v : Nat) : mayT (tyV v) = true := by
  refine may_mk ?_ (by simp)
  unfold nodeB kidsN
  simp
theorem inst_may {θ : Nat → Ty} : ∀ t, mayT t = true → (∀ v ∈ varsT t, mayT (θ v) = true) → mayT (inst θ t) = true := by
  refine ty_rec fun t ih hm h => ?_
  rw [inst_eq]
  rw [varsT_eq] at h
  split
  · rename_i hk
    exact h _ (by rw [if_pos hk]; simp)
  · refine may_mk ?_ ?_
    · rw [instK_len]; exact may_B hm
    · rw [instK_map]
      intro u hu
      obtain ⟨x, hx, rfl⟩ := List.mem_map.1 hu
      exact ih x hx (may_mem hm hx) fun v hv => h v (List.mem_append_right _ (mem_varsK.2 ⟨x, hx, hv⟩))
theorem inst_id : ∀ t, mayT t = true → inst tyV t = t := by
  refine ty_rec fun t ih hm => ?_
  rw [inst_eq]
  split
  · rename_i hk
    exact (is_var hm hk).symm
  · rw [instK_map, List.map_congr_left (g := id) (fun u hu => ih u hu (may_mem hm hu)), List.map_id]
    cases t; rfl
/-- A type that is none but a variable stays of its kind. -/
theorem inst_head {θ : Nat → Ty} {t : Ty} (h : t.h.k ≠ 5) : (inst θ t).h = t.h ∧ (inst θ t).ks = t.ks.map (inst θ) := by
  rw [inst_eq, if_neg h, instK_map]
  exact ⟨rfl, rfl⟩
theorem wts_map_le {f : Ty → Ty} : ∀ ts : List Ty, (∀ u ∈ ts, wt u ≤ wt (f u)) → wts ts ≤ wts (ts.map f)
  | [], _ => by simp [wts_nil]
  | t :: ts, h => by
    rw [List.map_cons, wts_cons, wts_cons]
    have := h t (by simp)
    have := wts_map_le ts fun u hu => h u (by simp [hu])
    omega
/-- What stands in it is no greater. -/
theorem wt_occ {θ : Nat → Ty} {v : Nat} : ∀ t, mayT t = true → v ∈ varsT t → wt (θ v) ≤ wt (inst θ t) ∧ (t.h.k ≠ 5 → wt (θ v) < wt (inst θ t)) := by
  refine ty_rec fun t ih hm h => ?_
  by_cases hk : t.h.k = 5
  · rw [is_var hm hk] at h ⊢
    rw [vars_var] at h
    rw [inst_var, List.mem_singleton.1 h]
    exact ⟨Nat.le_refl _, fun hx => absurd rfl hx⟩
  · rw [varsT_eq, if_neg hk, List.nil_append] at h
    obtain ⟨u, hu, hv⟩ := mem_varsK.1 h
    have h1 := (ih u hu (may_mem hm hu) hv).1
    rw [inst_eq, if_neg hk]
    have h2 : wt (inst θ u) ≤ wts (instK θ t.ks) := by rw [instK_map]; exact wts_mem (List.mem_map_of_mem hu)
    have h3 : wt (.node t.h (instK θ t.ks)) = wts (instK θ t.ks) + 1 := wt_ks _
    exact ⟨by omega, fun _ => by omega⟩

/-! ### What variables stand for -/
/-- What a variable stands for, none stands within itself. -/
structure Tri (f : Nat → Option Ty) (r : Nat → Nat) : Prop where
  rank : ∀ v t, f v = some t → ∀ w ∈ varsT t, r w < r v
def Solves (f : Nat → Option Ty) (θ : Nat → Ty) : Prop := ∀ v t, f v = some t → θ v = inst θ t
def senF (f : Nat → Option Ty) : Nat → Nat → Ty
  | 0, v => tyV v
  | k + 1, v => match f v with
    | none => tyV v
    | some t => inst (senF f k) t
/-- A variable's sense. -/
def sen (f : Nat → Option Ty) (r : Nat → Nat) (v : Nat) : Ty := senF f (r v + 1) v
section
variable {f : Nat → Option Ty} {r : Nat → Nat}
theorem senF_none {k v : Nat} (h : f v = none) : senF f k v = tyV v := by
  cases k with
  | zero => rfl
  | succ k => unfold senF; rw [h]
theorem senF_some {k v : Nat} {t : Ty} (h : f v = some t) : senF f (k + 1) v = inst (senF f k) t := by
  conv => lhs; unfold senF
  rw [h]
theorem senF_stay (hT : Tri f r) : ∀ k v, r v < k → senF f (k + 1) v = senF f k v := by
  intro k
  induction k with
  | zero => intro v h; omega
  | succ k ih =>
    intro v h
    cases hf : f v with
    | none => rw [senF_none hf, senF_none hf]
    | some t =>
      rw [senF_some hf, senF_some hf]
      exact inst_congr t fun w hw => ih w (by have := hT.rank v t hf w hw; omega)
theorem senF_sen (hT : Tri f r) (k v : Nat) (h : r v < k) : senF f k v = sen f r v := by
  obtain ⟨d, rfl⟩ : ∃ d, k = r v + 1 + d := ⟨k - (r v + 1), by omega⟩
  clear h
  induction d with
  | zero => rfl
  | succ d ih => rw [← ih]; exact senF_stay hT (r v + 1 + d) v (by omega)
theorem sen_none {v : Nat} (h : f v = none) : sen f r v = tyV v := senF_none h
theorem sen_some (hT : Tri f r) {v : Nat} {t : Ty} (h : f v = some t) : sen f r v = inst (sen f r) t := by
  unfold sen
  rw [senF_some h]
  exact inst_congr t fun w hw => senF_sen hT _ _ (hT.rank v t h w hw)
theorem sen_solves (hT : Tri f r) : Solves f (sen f r) := fun v t h => sen_some hT h
theorem rank_rec {P : Nat → Prop} (r : Nat → Nat) (h : ∀ v, (∀ w, r w < r v → P w) → P v) (v : Nat) : P v := by
  suffices ∀ m v, r v < m → P v from this _ v (Nat.lt_succ_self _)
  intro m
  induction m with
  | zero => intro v hv; omega
  | succ m ih => intro v hv; exact h v fun w hw => ih w (by omega)
theorem sen_most (hT : Tri f r) {θ : Nat → Ty} (hs : Solves f θ) : ∀ v, θ v = inst θ (sen f r v) := by
  refine rank_rec r fun v ih => ?_
  cases hf : f v with
  | none => rw [sen_none hf, inst_var]
  | some t =>
    rw [sen_some hT hf, hs v t hf, inst_inst]
    exact inst_congr t fun w hw => ih w (hT.rank v t hf w hw)
theorem sen_may (hT : Tri f r) (hm : ∀ v t, f v = some t → mayT t = true) : ∀ v, mayT (sen f r v) = true := by
  refine rank_rec r fun v ih => ?_
  cases hf : f v with
  | none => rw [sen_none hf]; exact may_V v
  | some t => rw [sen_some hT hf]; exact inst_may t (hm v t hf) fun w hw => ih w (hT.rank v t hf w hw)
theorem sen_low (hT : Tri f r) (hm : ∀ v t, f v = some t → mayT t = true) (hl : ∀ v w, f v = some (tyV w) → w < v) : ∀ v w, sen f r v = tyV w → w ≤ v := by
  refine rank_rec r fun v ih => ?_
  intro w h
  cases hf : f v with
  | none => rw [sen_none hf] at h; exact Nat.le_of_eq (tyV_inj h).symm
  | some t =>
    rw [sen_some hT hf] at h
    by_cases hk : t.h.k = 5
    · have e := is_var (hm v t hf) hk
      rw [e, inst_var] at h
      have h1 := ih _ (hT.rank v t hf _ (var_in e)) w h
      have h2 := hl v _ (by rw [hf, ← e])
      omega
    · have := (inst_head (θ := sen f r) hk).1
      rw [h] at this
      exact absurd (by rw [← this]; rfl) hk
end
/-- The sense of variables, where just what S tells is the same. -/
structure IsSen (S : (Nat → Ty) → Prop) (σ : Nat → Ty) : Prop where
  is : S σ
  most : ∀ θ, S θ → ∀ v, θ v = inst θ (σ v)
  low : ∀ v w, σ v = tyV w → w ≤ v
  may : ∀ v, mayT (σ v) = true
theorem isSen_of {f : Nat → Option Ty} {r : Nat → Nat} (hT : Tri f r) (hm : ∀ v t, f v = some t → mayT t = true) (hl : ∀ v w, f v = some (tyV w) → w < v) : IsSen (Solves f) (sen f r) :=
  ⟨sen_solves hT, fun _ h => sen_most hT h, sen_low hT hm hl, sen_may hT hm⟩
theorem inst_is_var {θ : Nat → Ty} {t : Ty} (ht : mayT t = true) (h : (inst θ t).h.k = 5) : t.h.k = 5 := by
  by_cases hk : t.h.k = 5
  · exact hk
  · rw [(inst_head hk).1] at h; exact absurd h hk
/-- There is but one. -/
theorem isSen_uniq {S : (Nat → Ty) → Prop} {σ τ : Nat → Ty} (h1 : IsSen S σ) (h2 : IsSen S τ) : ∀ v, σ v = τ v := by
  have key : ∀ a b : Ty, mayT a = true → mayT b = true → a = inst σ b → b = inst τ a → a = b := by
    refine ty_rec fun a ih => ?_
    intro b ha hb e1 e2
    by_cases hk : a.h.k = 5
    · have hkb : b.h.k = 5 := inst_is_var hb (by rw [← e1]; exact hk)
      have ea := is_var ha hk
      have eb := is_var hb hkb
      rw [eb, inst_var] at e1
      rw [ea, inst_var] at e2
      have l1 := h1.low _ _ (e1.symm.trans ea)
      have l2 := h2.low _ _ (e2.symm.trans eb)
      rw [ea, eb]
      congr 1
      omega
    · have hkb : ¬ b.h.k = 5 := fun h => hk (inst_is_var ha (by rw [← e2]; exact h))
      obtain ⟨p1, p2⟩ := inst_head (θ := σ) hkb
      obtain ⟨q1, q2⟩ := inst_head (θ := τ) hk
      rw [← e1] at p1 p2
      rw [← e2] at q1 q2
      have hks : a.ks = b.ks := by
        apply List.ext_getElem (by rw [p2]; simp)
        intro i hi hi'
        refine ih _ (List.getElem_mem hi) _ (may_mem ha (List.getElem_mem hi)) (may_mem hb (List.getElem_mem hi')) ?_ ?_
        · have : a.ks[i]? = (b.ks.map (inst σ))[i]? := by rw [← p2]
          rw [List.getElem?_eq_getElem hi, List.getElem?_map, List.getElem?_eq_getElem hi'] at this
          exact Option.some.inj this
        · have : b.ks[i]? = (a.ks.map (inst τ))[i]? := by rw [← q2]
          rw [List.getElem?_eq_getElem hi', List.getElem?_map, List.getElem?_eq_getElem hi] at this
          exact Option.some.inj this
      cases a; cases b
      simp only [Ty.h, Ty.ks] at p1 hks
      rw [p1, hks]
  intro v
  exact key _ _ (h1.may v) (h2.may v) (h2.most σ h1.is v) (h1.most τ h2.is v)
theorem isSen_eq {S : (Nat → Ty) → Prop} {σ τ : Nat → Ty} (h1 : IsSen S σ) (h2 : IsSen S τ) : σ = τ := funext (isSen_uniq h1 h2)
theorem isSen_iff {S S' : (Nat → Ty) → Prop} {σ : Nat → Ty} (h : ∀ θ, S θ ↔ S' θ) (h1 : IsSen S σ) : IsSen S' σ := ⟨(h σ).1 h1.is, fun θ ht => h1.most θ ((h θ).2 ht), h1.low, h1.may⟩
end Types
end Go.Proofs.YtjchplgapaeagaaDoor
namespace Go.Proofs.YtjchplgapaeagaaDoor
set_option linter.unusedVariables false
namespace Types

/-- A map of what variables stand for, by names: nm: each one's name; st: what a name stands for, if that is a type. -/
structure Rep (f : Nat → Option Ty) (nm : Nat → Nat) (st : Nat → Option Ty) : Prop where
  no : ∀ v, f v = none → nm v = v ∧ st v = none
  link : ∀ v w, f v = some (tyV w) → w < v ∧ nm v = nm w ∧ st v = none
  type : ∀ v t, f v = some t → t.h.k ≠ 5 → nm v = v ∧ st v = some t
  may : ∀ v t, f v = some t → mayT t = true
def upd {α : Type} (f : Nat → α) (v : Nat) (x : α) : Nat → α := fun u => if u = v then x else f u
theorem upd_same {α : Type} (f : Nat → α) (v : Nat) (x : α) : upd f v x v = x := if_pos rfl
theorem upd_other {α : Type} (f : Nat → α) {v u : Nat} (x : α) (h : u ≠ v) : upd f v x u = f u := if_neg h
section
variable {f : Nat → Option Ty} {nm : Nat → Nat} {st : Nat → Option Ty}
/-- Each variable is one of three. -/
theorem Rep.cases (h : Rep f nm st) (v : Nat) : (f v = none ∧ nm v = v ∧ st v = none) ∨ (∃ w, f v = some (tyV w) ∧ w < v ∧ nm v = nm w ∧ st v = none) ∨ (∃ t, f v = some t ∧ t.h.k ≠ 5 ∧ mayT t = true ∧ nm v = v ∧ st v = some t) := by
  cases hf : f v with
  | none => exact .inl ⟨rfl, h.no v hf⟩
  | some t =>
    by_cases hk : t.h.k = 5
    · have e := is_var (h.may v t hf) hk
      rw [e] at hf
      exact .inr (.inl ⟨_, congrArg some e, h.link v _ hf⟩)
    · exact .inr (.inr ⟨t, rfl, hk, h.may v t hf, h.type v t hf hk⟩)
theorem Rep.le (h : Rep f nm st) : ∀ v, nm v ≤ v := by
  intro v
  induction v using Nat.strongRecOn with
  | _ v ih =>
    rcases h.cases v with ⟨_, e, _⟩ | ⟨w, _, hw, e, _⟩ | ⟨t, _, _, _, e, _⟩
    · omega
    · have := ih w hw; omega
    · omega
theorem Rep.id (h : Rep f nm st) : ∀ v, nm (nm v) = nm v := by
  intro v
  induction v using Nat.strongRecOn with
  | _ v ih =>
    rcases h.cases v with ⟨_, e, _⟩ | ⟨w, _, hw, e, _⟩ | ⟨t, _, _, _, e, _⟩
    · rw [e, e]
    · rw [e]; exact ih w hw
    · rw [e, e]
theorem Rep.name (h : Rep f nm st) {v : Nat} {t : Ty} (hs : st v = some t) : nm v = v ∧ f v = some t ∧ t.h.k ≠ 5 ∧ mayT t = true := by
  rcases h.cases v with ⟨_, _, e⟩ | ⟨w, _, _, _, e⟩ | ⟨u, hf, hk, hm, e, e'⟩
  · rw [e] at hs; cases hs
  · rw [e] at hs; cases hs
  · rw [e'] at hs; cases hs; exact ⟨e, hf, hk, hm⟩
/-- At a name it is what the name stands for. -/
theorem Rep.at (h : Rep f nm st) {v : Nat} (hv : nm v = v) : f v = st v := by
  rcases h.cases v with ⟨e, _, e'⟩ | ⟨w, _, hw, e, _⟩ | ⟨u, hf, _, _, _, e'⟩
  · rw [e, e']
  · have := h.le w; omega
  · rw [hf, e']
theorem Rep.at_nm (h : Rep f nm st) (v : Nat) : f (nm v) = st (nm v) := h.at (h.id v)
/-- A way is halved. -/
theorem Rep.halve (h : Rep f nm st) {v w x : Nat} (h1 : f v = some (tyV w)) (h2 : f w = some (tyV x)) : Rep (upd f v (some (tyV x))) nm st := by
  obtain ⟨a1, a2, a3⟩ := h.link v w h1
  obtain ⟨b1, b2, b3⟩ := h.link w x h2
  refine ⟨fun u hu => ?_, fun u y hu => ?_, fun u t hu => ?_, fun u t hu => ?_⟩
  · by_cases e : u = v
    · subst e; rw [upd_same] at hu; cases hu
    · rw [upd_other _ _ e] at hu; exact h.no u hu
  · by_cases e : u = v
    · subst e
      rw [upd_same] at hu
      have hxy := tyV_inj (Option.some.inj hu)
      subst hxy
      exact ⟨by omega, by rw [a2, b2], a3⟩
    · rw [upd_other _ _ e] at hu; exact h.link u y hu
  · by_cases e : u = v
    · subst e
      rw [upd_same] at hu
      have hxy := Option.some.inj hu
      subst hxy
      intro hk; exact absurd rfl hk
    · rw [upd_other _ _ e] at hu; exact fun hk => h.type u t hu hk
  · by_cases e : u = v
    · subst e
      rw [upd_same] at hu
      have hxy := Option.some.inj hu
      subst hxy
      exact may_V x
    · rw [upd_other _ _ e] at hu; exact h.may u t hu
/-- What solves it, by names. -/
def SolA (nm : Nat → Nat) (st : Nat → Option Ty) (θ : Nat → Ty) : Prop := (∀ v, θ v = θ (nm v)) ∧ ∀ v t, st v = some t → θ v = inst θ t
theorem Rep.solves (h : Rep f nm st) (θ : Nat → Ty) : Solves f θ ↔ SolA nm st θ := by
  constructor
  · intro hs
    refine ⟨fun v => ?_, fun v t ht => hs v t (h.name ht).2.1⟩
    induction v using Nat.strongRecOn with
    | _ v ih =>
      rcases h.cases v with ⟨_, e, _⟩ | ⟨w, hf, hw, e, _⟩ | ⟨t, _, _, _, e, _⟩
      · rw [e]
      · rw [hs v _ hf, inst_var, e]; exact ih w hw
      · rw [e]
  · rintro ⟨h1, h2⟩ v t ht
    rcases h.cases v with ⟨e, _, _⟩ | ⟨w, hf, hw, e, _⟩ | ⟨u, hf, _, _, e, e'⟩
    · rw [e] at ht; cases ht
    · rw [hf] at ht; cases ht
      rw [inst_var, h1 v, e, ← h1 w]
    · rw [hf] at ht; cases ht
      exact h2 v _ e'
/-- None stands within itself: by names, and so by what stands in the map. -/
theorem Rep.tri (h : Rep f nm st) {n : Nat} {r : Nat → Nat} (hn : ∀ v t, f v = some t → v < n ∧ ∀ w ∈ varsT t, w < n) (ha : ∀ v t, st v = some t → ∀ w ∈ varsT t, r (nm w) < r v) : Tri f (fun v => r (nm v) * n + v) := by
  refine ⟨fun v t ht w hw => ?_⟩
  obtain ⟨hv, hwn⟩ := hn v t ht
  have hwn := hwn w hw
  rcases h.cases v with ⟨e, _, _⟩ | ⟨x, hf, hx, e, _⟩ | ⟨u, hf, _, _, e, e'⟩
  · rw [e] at ht; cases ht
  · rw [hf] at ht; cases ht
    rw [vars_var, List.mem_singleton] at hw
    subst hw
    show r (nm w) * n + w < r (nm v) * n + v
    rw [e]; omega
  · rw [hf] at ht; cases ht
    have h1 := ha v _ e' w hw
    show r (nm w) * n + w < r (nm v) * n + v
    rw [e]
    have h2 : (r (nm w) + 1) * n ≤ r v * n := Nat.mul_le_mul_right n h1
    rw [Nat.add_mul] at h2
    omega
end

/-- A book, as it counts: n variables, their names, what names stand for; g: what is marked as met within types. -/
structure Bo (n : Nat) (nm : Nat → Nat) (st : Nat → Option Ty) (g : Nat → Bool) (r : Nat → Nat) : Prop where
  le : ∀ v, nm v ≤ v
  id : ∀ v, nm (nm v) = nm v
  out : ∀ v, n ≤ v → nm v = v ∧ st v = none
  name : ∀ v t, st v = some t → nm v = v ∧ mayT t = true ∧ t.h.k ≠ 5 ∧ ∀ w ∈ varsT t, w < n
  ac : ∀ v t, st v = some t → ∀ w ∈ varsT t, r (nm w) < r v
  inn : ∀ v t, st v = some t → ∀ w ∈ varsT t, g (nm w) = true
/-- It as a map. -/
def mapOf (nm : Nat → Nat) (st : Nat → Option Ty) (v : Nat) : Option Ty := if nm v = v then st v else some (tyV (nm v))
section
variable {n : Nat} {nm : Nat → Nat} {st : Nat → Option Ty} {g : Nat → Bool} {r : Nat → Nat}
theorem Bo.lt (h : Bo n nm st g r) {v : Nat} {t : Ty} (hs : st v = some t) : v < n := by
  rcases Nat.lt_or_ge v n with hv | hv
  · exact hv
  · rw [(h.out v hv).2] at hs; cases hs
theorem Bo.nm_lt (h : Bo n nm st g r) {v : Nat} (hv : v < n) : nm v < n := Nat.lt_of_le_of_lt (h.le v) hv
theorem Bo.st_link (h : Bo n nm st g r) {v : Nat} (hv : nm v ≠ v) : st v = none := by
  cases hs : st v with
  | none => rfl
  | some t => exact absurd (h.name v t hs).1 hv
theorem Bo.rep (h : Bo n nm st g r) : Rep (mapOf nm st) nm st := by
  refine ⟨fun v hv => ?_, fun v w hv => ?_, fun v t hv hk => ?_, fun v t hv => ?_⟩
  all_goals
    unfold mapOf at hv
    split at hv
    all_goals rename_i e
  · exact ⟨e, hv⟩
  · cases hv
  · exact absurd rfl (h.name v _ hv).2.2.1
  · have := tyV_inj (Option.some.inj hv)
    subst this
    exact ⟨by have := h.le v; omega, (h.id v).symm, h.st_link e⟩
  · exact ⟨e, hv⟩
  · cases hv; exact absurd rfl hk
  · exact (h.name v t hv).2.1
  · cases hv; exact may_V _
theorem Bo.map_lt (h : Bo n nm st g r) (v : Nat) (t : Ty) (hv : mapOf nm st v = some t) : v < n ∧ ∀ w ∈ varsT t, w < n := by
  unfold mapOf at hv
  split at hv
  · exact ⟨h.lt hv, (h.name v t hv).2.2.2⟩
  · rename_i e
    cases hv
    have hvn : v < n := by
      rcases Nat.lt_or_ge v n with hx | hx
      · exact hx
      · exact absurd (h.out v hx).1 e
    refine ⟨hvn, fun w hw => ?_⟩
    rw [vars_var, List.mem_singleton] at hw
    subst hw
    exact h.nm_lt hvn
/-- The senses of its variables. -/
def senB (n : Nat) (nm : Nat → Nat) (st : Nat → Option Ty) (r : Nat → Nat) : Nat → Ty := sen (mapOf nm st) (fun v => r (nm v) * n + v)
theorem Bo.tri (h : Bo n nm st g r) : Tri (mapOf nm st) (fun v => r (nm v) * n + v) := h.rep.tri (fun v t => h.map_lt v t) h.ac
theorem Bo.isSen (h : Bo n nm st g r) : IsSen (SolA nm st) (senB n nm st r) :=
  isSen_iff (h.rep.solves) (isSen_of h.tri h.rep.may fun v w hv => (h.rep.link v w hv).1)
theorem Bo.sen_nm (h : Bo n nm st g r) (v : Nat) : senB n nm st r v = senB n nm st r (nm v) := h.isSen.is.1 v
theorem Bo.sen_open (h : Bo n nm st g r) {v : Nat} (hv : nm v = v) (hs : st v = none) : senB n nm st r v = tyV v := sen_none (by unfold mapOf; rw [if_pos hv, hs])
theorem Bo.sen_shut (h : Bo n nm st g r) {v : Nat} {t : Ty} (hs : st v = some t) : senB n nm st r v = inst (senB n nm st r) t := h.isSen.is.2 v t hs
theorem Bo.sen_var (h : Bo n nm st g r) {v w : Nat} (e : senB n nm st r v = tyV w) : w = nm v ∧ st w = none := by
  rw [h.sen_nm] at e
  cases hs : st (nm v) with
  | none =>
    rw [h.sen_open (h.id v) hs] at e
    have := tyV_inj e
    subst this
    exact ⟨rfl, hs⟩
  | some t =>
    rw [h.sen_shut hs] at e
    have h1 := (inst_head (θ := senB n nm st r) (h.name _ _ hs).2.2.1).1
    rw [e] at h1
    exact absurd (by rw [← h1]; rfl) (h.name _ _ hs).2.2.1
/-- What stands strictly within a sense is marked. -/
theorem Bo.sen_inn (h : Bo n nm st g r) : ∀ v w, w ∈ varsK (senB n nm st r v).ks → g w = true := by
  have key : ∀ v, ∀ w, w ∈ varsT (senB n nm st r v) → w = nm v ∧ st (nm v) = none ∨ g w = true := by
    refine rank_rec (fun v => r (nm v)) fun v ih => ?_
    intro w hw
    rw [h.sen_nm] at hw
    cases hs : st (nm v) with
    | none =>
      rw [h.sen_open (h.id v) hs, vars_var, List.mem_singleton] at hw
      exact .inl ⟨hw, rfl⟩
    | some t =>
      rw [h.sen_shut hs] at hw
      have hsub : ∀ t, mayT t = true → w ∈ varsT (inst (senB n nm st r) t) → ∃ u ∈ varsT t, w ∈ varsT (senB n nm st r u) := by
        refine ty_rec fun t iht hm hw => ?_
        by_cases hk : t.h.k = 5
        · have e := is_var hm hk
          rw [e, inst_var] at hw
          exact ⟨_, var_in e, hw⟩
        · rw [inst_eq, if_neg hk, varsT_eq, if_neg (show ¬ (Ty.node t.h _).h.k = 5 from hk), List.nil_append] at hw
          obtain ⟨x, hx, hwx⟩ := mem_varsK.1 hw
          rw [show (Ty.node t.h (instK (senB n nm st r) t.ks)).ks = instK (senB n nm st r) t.ks from rfl, instK_map] at hx
          obtain ⟨y, hy, rfl⟩ := List.mem_map.1 hx
          obtain ⟨u, hu, hwu⟩ := iht y hy (may_mem hm hy) hwx
          refine ⟨u, ?_, hwu⟩
          rw [varsT_eq, if_neg hk, List.nil_append]
          exact mem_varsK.2 ⟨y, hy, hu⟩
      obtain ⟨u, hu, hwu⟩ := hsub t (h.name _ _ hs).2.1 hw
      rcases ih u (h.ac _ _ hs u hu) w hwu with ⟨rfl, _⟩ | hg
      · exact .inr (h.inn _ _ hs u hu)
      · exact .inr hg
  intro v w hw
  have hw' : w ∈ varsT (senB n nm st r v) := by rw [varsT_eq]; exact List.mem_append_right _ hw
  rcases key v w hw' with ⟨rfl, hs⟩ | hg
  · rw [h.sen_nm, h.sen_open (h.id v) hs] at hw
    rw [show (tyV (nm v)).ks = [] from rfl, varsK_nil] at hw
    cases hw
  · exact hg
end
end Types
end Go.Proofs.YtjchplgapaeagaaDoor
namespace Go.Proofs.YtjchplgapaeagaaDoor
set_option linter.unusedVariables false
namespace Types

/-- One by names and by what is still to be made one. -/
def Eqv (nm : Nat → Nat) (row : List (Nat × Nat)) (u u' : Nat) : Prop := ∀ c : Nat → Nat, (∀ v, c v = c (nm v)) → (∀ p ∈ row, c p.1 = c p.2) → c u = c u'
theorem Eqv.refl (nm : Nat → Nat) (row : List (Nat × Nat)) (u : Nat) : Eqv nm row u u := fun _ _ _ => rfl
theorem Eqv.names {nm : Nat → Nat} {u u' : Nat} (hid : ∀ v, nm (nm v) = nm v) (h : Eqv nm [] u u') : nm u = nm u' := h nm (fun v => (hid v).symm) (fun p hp => by cases hp)
/-- A kid, as it was at first and as it is now. -/
def AgK (n0 : Nat) (σ0 : Nat → Ty) (N : Nat) (nm : Nat → Nat) (O : Nat → Ty) (row : List (Nat × Nat)) (s d : Ty) : Prop :=
  (∃ u, s = tyV u ∧ ∃ u', u' < N ∧ Eqv nm row u u' ∧ inst σ0 (O u') = d) ∨ (s.h.k ≠ 5 ∧ mayT s = true ∧ (∀ w ∈ varsT s, w < n0) ∧ inst σ0 s = d)
/-- A trial over a book of n0 variables; those from n0 on are the trial's own, those from n1 on parts of others. -/
structure TrI (n0 : Nat) (nm0 : Nat → Nat) (st0 : Nat → Option Ty) (σ0 : Nat → Ty) (n1 : Nat) (G : (Nat → Ty) → Prop)
    (N : Nat) (nm : Nat → Nat) (st : Nat → Option Ty) (O : Nat → Ty) (par pos : Nat → Nat) (row : List (Nat × Nat)) (joined : List Nat) (g : Nat → Bool) : Prop where
  n01 : n0 ≤ N
  n011 : n0 ≤ n1
  le : ∀ v, nm v ≤ v
  id : ∀ v, nm (nm v) = nm v
  out : ∀ v, N ≤ v → nm v = v ∧ st v = none
  ref : ∀ v, nm (nm0 v) = nm v
  und : ∀ v, v < n0 → O v = tyV v
  own : ∀ v, n0 ≤ v → v < N → mayT (O v) = true ∧ (O v).h.k ≠ 5 ∧ ∀ w ∈ varsT (O v), w < n0 ∧ g (nm0 w) = true
  name : ∀ v t, st v = some t → nm v = v ∧ v < N ∧ mayT t = true ∧ t.h.k ≠ 5 ∧ ∀ w ∈ varsT t, w < N ∧ (n1 ≤ w ∨ (w < n0 ∧ g (nm0 w) = true))
  flat : ∀ v t, st v = some t → (∀ w ∈ varsT t, w < n0) ∨ ∀ u ∈ t.ks, u.h.k = 5
  rowlt : ∀ p ∈ row, p.1 < N ∧ p.2 < N
  rowk : ∀ p ∈ row, ((n1 ≤ p.1 ∨ (p.1 < n0 ∧ g (nm0 p.1) = true)) ∧ (n1 ≤ p.2 ∨ (p.2 < n0 ∧ g (nm0 p.2) = true))) ∨ (p.1 < n1 ∧ p.2 < n1)
  h1 : ∀ v, v < N → (n1 ≤ v ∨ (v < n0 ∧ g (nm0 v) = true)) → nm v < n0 → g (nm v) = true
  h2 : ∀ v, n1 ≤ v → v < N → n0 ≤ nm v → n1 ≤ nm v
  sol : ∀ θ, (SolA nm0 st0 θ ∧ (∀ v, n0 ≤ v → v < N → θ v = inst θ (O v)) ∧ G θ) ↔ (SolA nm st θ ∧ ∀ p ∈ row, θ p.1 = θ p.2)
  ag : ∀ v, v < N → (inst σ0 (O v)).h.k ≠ 5 → ∃ t, st (nm v) = some t ∧ t.h = (inst σ0 (O v)).h ∧ t.ks.length = (inst σ0 (O v)).ks.length ∧ ∀ j, j < t.ks.length → AgK n0 σ0 N nm O row (tget t.ks j) (tget (inst σ0 (O v)).ks j)
  cl : ∀ v t, st v = some t → ∃ u, u < N ∧ nm u = v ∧ (inst σ0 (O u)).h.k ≠ 5
  jo : ∀ w, w < n0 → nm0 w = w → (nm w ≠ w ∨ st w ≠ st0 w) → w ∈ joined
  jn : ∀ w ∈ joined, w < n0 → nm0 w = w
  p1 : ∀ c t, st c = some t → ∀ j a, j < t.ks.length → tget t.ks j = tyV a → n0 ≤ a → n1 ≤ a ∧ nm (par a) = c ∧ pos a = j
  p2 : ∀ a b, n1 ≤ a → a < N → n1 ≤ b → b < N → nm a = nm b → n0 ≤ nm a → nm (par a) = nm (par b) ∧ pos a = pos b
  p3 : ∀ p ∈ row, n1 ≤ p.1 → n1 ≤ p.2 → nm (par p.1) = nm (par p.2) ∧ pos p.1 = pos p.2

theorem AgK.grow {n0 : Nat} {σ0 : Nat → Ty} {N N' : Nat} {nm nm' : Nat → Nat} {O O' : Nat → Ty} {row row' : List (Nat × Nat)} {s d : Ty} (h : AgK n0 σ0 N nm O row s d) (hN : N ≤ N') (hO : ∀ u, u < N → O' u = O u)
    (hE : ∀ u u', Eqv nm row u u' → Eqv nm' row' u u') : AgK n0 σ0 N' nm' O' row' s d := by
  rcases h with ⟨u, e, u', h1, h2, h3⟩ | h
  · exact .inl ⟨u, e, u', by omega, hE _ _ h2, by rw [hO u' h1]; exact h3⟩
  · exact .inr h
theorem tget_map {f : Ty → Ty} {ts : List Ty} {j : Nat} (h : j < ts.length) : tget (ts.map f) j = f (tget ts j) := by
  unfold tget
  rw [List.getD_eq_getElem?_getD, List.getElem?_map, List.getD_eq_getElem?_getD, List.getElem?_eq_getElem h]
  rfl
section
variable {n0 : Nat} {nm0 : Nat → Nat} {st0 : Nat → Option Ty} {σ0 : Nat → Ty} {n1 : Nat} {G : (Nat → Ty) → Prop}
    {N : Nat} {nm : Nat → Nat} {st : Nat → Option Ty} {O : Nat → Ty} {par pos : Nat → Nat} {row : List (Nat × Nat)} {joined : List Nat} {g : Nat → Bool}
/-- More is marked. -/
theorem TrI.marks (h : TrI n0 nm0 st0 σ0 n1 G N nm st O par pos row joined g) {g' : Nat → Bool} (hg : ∀ v, g v = true → g' v = true)
    (h1 : ∀ v, v < N → (n1 ≤ v ∨ (v < n0 ∧ g' (nm0 v) = true)) → nm v < n0 → g' (nm v) = true) : TrI n0 nm0 st0 σ0 n1 G N nm st O par pos row joined g' :=
  { h with
    own := fun v a b => ⟨(h.own v a b).1, (h.own v a b).2.1, fun w hw => ⟨((h.own v a b).2.2 w hw).1, hg _ ((h.own v a b).2.2 w hw).2⟩⟩
    name := fun v t hs => ⟨(h.name v t hs).1, (h.name v t hs).2.1, (h.name v t hs).2.2.1, (h.name v t hs).2.2.2.1, fun w hw => ⟨((h.name v t hs).2.2.2.2 w hw).1, ((h.name v t hs).2.2.2.2 w hw).2.imp _root_.id fun x => ⟨x.1, hg _ x.2⟩⟩⟩
    rowk := fun p hp => (h.rowk p hp).imp (fun x => ⟨x.1.imp _root_.id fun y => ⟨y.1, hg _ y.2⟩, x.2.imp _root_.id fun y => ⟨y.1, hg _ y.2⟩⟩) _root_.id
    h1 := h1 }
/-- A part is opened: a variable more, which stands for it. -/
theorem TrI.opens (h : TrI n0 nm0 st0 σ0 n1 G N nm st O par pos row joined g) (hB : ∀ v, n0 ≤ v → nm0 v = v) {s : Ty} (hm : mayT s = true) (hk : s.h.k ≠ 5) (hvs : ∀ w ∈ varsT s, w < n0 ∧ g (nm0 w) = true) (c j : Nat) :
    TrI n0 nm0 st0 σ0 n1 G (N + 1) nm (upd st N (some s)) (upd O N s) (upd par N c) (upd pos N j) row joined g := by
  have hnN : nm N = N := (h.out N (Nat.le_refl _)).1
  have hO : ∀ u, u < N → upd O N s u = O u := fun u hu => upd_other _ _ (by omega)
  have hN0 := h.n01
  have hst : ∀ v t, upd st N (some s) v = some t → (v = N ∧ t = s) ∨ (v ≠ N ∧ st v = some t) := by
    intro v t ht
    by_cases e : v = N
    · subst e; rw [upd_same] at ht; exact .inl ⟨rfl, (Option.some.inj ht).symm⟩
    · rw [upd_other _ _ e] at ht; exact .inr ⟨e, ht⟩
  have hnmlt : ∀ v, v < N → nm v < N := fun v hv => Nat.lt_of_le_of_lt (h.le v) hv
  refine ⟨by omega, h.n011, h.le, h.id, fun v hv => ⟨(h.out v (by omega)).1, ?_⟩, h.ref, fun v hv => ?_, fun v a b => ?_, fun v t ht => ?_, fun v t ht => ?_, fun p hp => ?_, h.rowk, fun v a b d => ?_, fun v a b d => ?_, fun θ => ?_, fun v hv hd => ?_, fun v t ht => ?_, fun w hw hn hc => ?_, h.jn, fun c' t ht j' a hj ha han => ?_, fun a b a1 a2 b1 b2 e en => ?_, fun p hp a b => ?_⟩
  · rw [upd_other _ _ (by omega)]; exact (h.out v (by omega)).2
  · rw [hO v (by omega)]; exact h.und v hv
  · by_cases e : v = N
    · subst e; rw [upd_same]; exact ⟨hm, hk, hvs⟩
    · rw [upd_other _ _ e]; exact h.own v a (by omega)
  · rcases hst v t ht with ⟨rfl, rfl⟩ | ⟨_, hs⟩
    · exact ⟨hnN, by omega, hm, hk, fun w hw => ⟨by have := (hvs w hw).1; omega, .inr (hvs w hw)⟩⟩
    · obtain ⟨a, b, c, d, e⟩ := h.name v t hs
      exact ⟨a, by omega, c, d, fun w hw => ⟨by have := (e w hw).1; omega, (e w hw).2⟩⟩
  · rcases hst v t ht with ⟨rfl, rfl⟩ | ⟨_, hs⟩
    · exact .inl fun w hw => (hvs w hw).1
    · exact h.flat v t hs
  · have := h.rowlt p hp; exact ⟨by omega, by omega⟩
  · by_cases e : v = N
    · subst e; rw [hnN] at d; omega
    · exact h.h1 v (by omega) b d
  · by_cases e : v = N
    · subst e; rw [hnN]; exact a
    · exact h.h2 v a (by omega) d
  · have hSol : SolA nm (upd st N (some s)) θ ↔ SolA nm st θ ∧ θ N = inst θ s := by
      constructor
      · rintro ⟨x1, x2⟩
        refine ⟨⟨x1, fun v t ht => x2 v t ?_⟩, x2 N s (upd_same _ _ _)⟩
        rw [upd_other _ _ (by have := (h.name v t ht).2.1; omega)]; exact ht
      · rintro ⟨⟨x1, x2⟩, x3⟩
        refine ⟨x1, fun v t ht => ?_⟩
        rcases hst v t ht with ⟨rfl, rfl⟩ | ⟨_, hs⟩
        · exact x3
        · exact x2 v t hs
    rw [hSol]
    constructor
    · rintro ⟨y1, y2, y3⟩
      obtain ⟨z1, z2⟩ := (h.sol θ).1 ⟨y1, fun v a b => by have := y2 v a (by omega); rwa [hO v b] at this, y3⟩
      refine ⟨⟨z1, ?_⟩, z2⟩
      have := y2 N hN0 (by omega)
      rwa [upd_same] at this
    · rintro ⟨⟨z1, z3⟩, z2⟩
      obtain ⟨y1, y2, y3⟩ := (h.sol θ).2 ⟨z1, z2⟩
      refine ⟨y1, fun v a b => ?_, y3⟩
      by_cases e : v = N
      · subst e; rw [upd_same]; exact z3
      · rw [upd_other _ _ e]; exact y2 v a (by omega)
  · by_cases e : v = N
    · subst e
      rw [upd_same] at hd ⊢
      obtain ⟨q1, q2⟩ := inst_head (θ := σ0) hk
      refine ⟨s, by rw [hnN, upd_same], q1.symm, by rw [q2]; simp, fun i hi => ?_⟩
      rw [q2, tget_map hi]
      have hmi := may_mem hm (tget_mem hi)
      by_cases hki : (tget s.ks i).h.k = 5
      · have ei := is_var hmi hki
        have hu : (tget s.ks i).h.v.toNat < n0 := (hvs _ (by rw [varsT_eq, if_neg hk, List.nil_append]; exact mem_varsK.2 ⟨_, tget_mem hi, var_in ei⟩)).1
        refine .inl ⟨_, ei, _, by omega, Eqv.refl _ _ _, ?_⟩
        rw [upd_other _ _ (by omega), h.und _ hu, ← ei]
      · refine .inr ⟨hki, hmi, fun w hw => (hvs w ?_).1, rfl⟩
        rw [varsT_eq, if_neg hk, List.nil_append]; exact mem_varsK.2 ⟨_, tget_mem hi, hw⟩
    · rw [upd_other _ _ e] at hd ⊢
      obtain ⟨t, x1, x2, x3, x4⟩ := h.ag v (by omega) hd
      refine ⟨t, by rw [upd_other _ _ (by have := hnmlt v (by omega); omega)]; exact x1, x2, x3, fun i hi => (x4 i hi).grow (by omega) hO fun _ _ h => h⟩
  · rcases hst v t ht with ⟨rfl, rfl⟩ | ⟨_, hs⟩
    · exact ⟨v, by omega, hnN, by rw [upd_same, (inst_head hk).1]; exact hk⟩
    · obtain ⟨u, a, b, c⟩ := h.cl v t hs
      exact ⟨u, by omega, b, by rw [hO u a]; exact c⟩
  · refine h.jo w hw hn ?_
    rw [upd_other _ _ (by omega)] at hc; exact hc
  · rcases hst c' t ht with ⟨rfl, rfl⟩ | ⟨hcN, hs⟩
    · have : a < n0 := (hvs a (by rw [varsT_eq, if_neg hk, List.nil_append]; exact mem_varsK.2 ⟨_, tget_mem hj, by rw [ha, vars_var]; simp⟩)).1
      omega
    · have haN : a < N := ((h.name c' t hs).2.2.2.2 a (by rw [varsT_eq]; exact List.mem_append_right _ (mem_varsK.2 ⟨_, tget_mem hj, by rw [ha, vars_var]; simp⟩))).1
      rw [upd_other _ _ (by omega), upd_other _ _ (by omega)]
      exact h.p1 c' t hs j' a hj ha han
  · by_cases ea : a = N
    · by_cases eb : b = N
      · rw [ea, eb]; exact ⟨rfl, rfl⟩
      · have := hnmlt b (by omega); rw [ea, hnN] at e; omega
    · by_cases eb : b = N
      · have := hnmlt a (by omega); rw [eb, hnN] at e; omega
      · rw [upd_other _ _ ea, upd_other _ _ ea, upd_other _ _ eb, upd_other _ _ eb]
        exact h.p2 a b a1 (by omega) b1 (by omega) e en
  · have := h.rowlt p hp
    rw [upd_other _ _ (by omega), upd_other _ _ (by omega), upd_other _ _ (by omega), upd_other _ _ (by omega)]
    exact h.p3 p hp a b
/-- A pair of what is one already. -/
theorem TrI.drop (h : TrI n0 nm0 st0 σ0 n1 G N nm st O par pos row joined g) {x y : Nat} {rest : List (Nat × Nat)} (hr : ∀ p, p ∈ row ↔ p ∈ rest ∨ p = (x, y)) (he : nm x = nm y) : TrI n0 nm0 st0 σ0 n1 G N nm st O par pos rest joined g := by
  have hsub : ∀ p ∈ rest, p ∈ row := fun p hp => (hr p).2 (.inl hp)
  refine { h with rowlt := fun p hp => h.rowlt p (hsub p hp), rowk := fun p hp => h.rowk p (hsub p hp), p3 := fun p hp => h.p3 p (hsub p hp), sol := fun θ => ?_, ag := fun v hv hd => ?_ }
  · rw [h.sol θ]
    constructor
    · rintro ⟨a, b⟩; exact ⟨a, fun p hp => b p (hsub p hp)⟩
    · rintro ⟨a, b⟩
      refine ⟨a, fun p hp => ?_⟩
      rcases (hr p).1 hp with hp | rfl
      · exact b p hp
      · show θ x = θ y
        rw [a.1 x, a.1 y, he]
  · obtain ⟨t, x1, x2, x3, x4⟩ := h.ag v hv hd
    refine ⟨t, x1, x2, x3, fun i hi => (x4 i hi).grow (Nat.le_refl _) (fun _ _ => rfl) fun u u' he' c c1 c2 => he' c c1 fun p hp => ?_⟩
    rcases (hr p).1 hp with hp | rfl
    · exact c2 p hp
    · show c x = c y
      rw [c1 x, c1 y, he]
end
end Types
end Go.Proofs.YtjchplgapaeagaaDoor
