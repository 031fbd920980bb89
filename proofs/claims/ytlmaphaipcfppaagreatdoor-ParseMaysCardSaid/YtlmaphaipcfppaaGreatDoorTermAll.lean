/- The walk of the document's row of all nodes. -/
import Derived.Test.YtlmaphaipcfppaaGreatDoorTermBase
import Derived.OwnWalk
import Derived.Laws.AppendOwn
namespace Go.Proofs.YtlmaphaipcfppaaGreatDoor
open Go.RowKit
set_option linter.unusedVariables false
namespace Term

mutual
/-- All nodes, each ahead of its kids'. -/
def flatT : Tm → List Tm
  | .node h l => .node h l :: flatK l
def flatK : List Tm → List Tm
  | [] => []
  | t :: ts => flatT t ++ flatK ts
end
theorem flatT_eq (t : Tm) : flatT t = t :: flatK t.ks := by cases t; unfold flatT; rfl
theorem flatK_nil : flatK [] = [] := by unfold flatK; rfl
theorem flatK_cons (t : Tm) (ts : List Tm) : flatK (t :: ts) = flatT t ++ flatK ts := by conv => lhs; unfold flatK
theorem flatK_append : ∀ ts us : List Tm, flatK (ts ++ us) = flatK ts ++ flatK us
  | [], us => by rw [flatK_nil]; rfl
  | t :: ts, us => by rw [List.cons_append, flatK_cons, flatK_cons, flatK_append ts us, List.append_assoc]
theorem flat_len : ∀ m : Nat, (∀ t, wt t ≤ m → (flatT t).length = wt t) ∧ (∀ ts, wts ts ≤ m → (flatK ts).length = wts ts) := by
  intro m
  induction m with
  | zero =>
    refine ⟨fun t h => by have := wt_pos t; omega, fun ts h => ?_⟩
    cases ts with
    | nil => rw [flatK_nil, wts_nil]; rfl
    | cons t ts => rw [wts_cons] at h; have := wt_pos t; omega
  | succ m ih =>
    have hT : ∀ t, wt t ≤ m + 1 → (flatT t).length = wt t := by
      intro t h
      have hk := wt_ks t
      have := ih.2 t.ks (by omega)
      rw [flatT_eq, List.length_cons, this]
      omega
    refine ⟨hT, fun ts => ?_⟩
    induction ts with
    | nil => intro _; rw [flatK_nil, wts_nil]; rfl
    | cons t ts ihs =>
      intro h
      rw [wts_cons] at h
      rw [flatK_cons, wts_cons, List.length_append, hT t (by omega), ihs (by omega)]
theorem flatT_len (t : Tm) : (flatT t).length = wt t := (flat_len (wt t)).1 t (Nat.le_refl _)
theorem flatK_len (ts : List Tm) : (flatK ts).length = wts ts := (flat_len (wts ts)).2 ts (Nat.le_refl _)
theorem flatK_take (ts : List Tm) (k : Nat) (h : k < ts.length) : flatK (ts.take (k + 1)) = flatK (ts.take k) ++ flatT (tget ts k) := by
  rw [take_tget ts k h, flatK_append, flatK_cons, flatK_nil, List.append_nil]
theorem wts_take (ts : List Tm) (k : Nat) (h : k < ts.length) : wts (ts.take (k + 1)) = wts (ts.take k) + wt (tget ts k) := by
  rw [take_tget ts k h, wts_append, wts_cons, wts_nil]; omega

/-- Terms by value, one behind the other, their kids in the memory w. -/
def Flat (w : World) : List Value → List Tm → Prop
  | xs, [] => xs = []
  | xs, t :: ts => ∃ q c ys, xs = tcells t.h q t.ks.length c ++ ys ∧ TmIs w t.h q t.ks.length c t ∧ Flat w ys ts
theorem Flat.append {w : World} : ∀ {ts us : List Tm} {xs ys : List Value}, Flat w xs ts → Flat w ys us → Flat w (xs ++ ys) (ts ++ us)
  | [], us, xs, ys, h, k => by
    have : xs = [] := h
    subst this
    exact k
  | t :: ts, us, xs, ys, ⟨q, c, zs, he, hT, h⟩, k => ⟨q, c, zs ++ ys, by rw [he, List.append_assoc], hT, h.append k⟩
theorem Flat.len {w : World} : ∀ {ts : List Tm} {xs : List Value}, Flat w xs ts → xs.length = ts.length * 8
  | [], xs, h => by
    have : xs = [] := h
    subst this
    rfl
  | t :: ts, xs, ⟨q, c, zs, he, _, h⟩ => by
    rw [he, List.length_append, h.len, List.length_cons]
    simp [tcells]
    omega
theorem Flat.one {w : World} {t : Tm} {h : Hd} {q : Option Addr} {l c : Nat} (hT : TmIs w h q l c t) : Flat w (tcells h q l c) [t] := by
  obtain ⟨h1, h2, h3, h4, h5⟩ := hT
  subst h1 h2
  exact ⟨q, c, [], by simp, ⟨rfl, rfl, h3, h4, h5⟩, rfl⟩
theorem Flat.cells1 {w : World} : ∀ {ts : List Tm} {xs : List Value}, Flat w xs ts → ∀ u ∈ xs, u.oneCell' = true
  | [], xs, h, u, hu => by
    have : xs = [] := h
    subst this
    cases hu
  | t :: ts, xs, ⟨q, c, zs, he, _, h⟩, u, hu => by
    rw [he] at hu
    rcases List.mem_append.1 hu with hu | hu
    · simp [tcells] at hu
      rcases hu with rfl | rfl | rfl | rfl | rfl | rfl | rfl | rfl <;> rfl
    · exact h.cells1 u hu
theorem Flat.get {w : World} : ∀ {ts : List Tm} {xs : List Value}, Flat w xs ts → ∀ i, i < ts.length → ∃ q c, TmIs w (tget ts i).h q (tget ts i).ks.length c (tget ts i) ∧ ∀ j v, (tcells (tget ts i).h q (tget ts i).ks.length c)[j]? = some v → xs[i * 8 + j]? = some v
  | [], xs, _, i, hi => by simp at hi
  | t :: ts, xs, ⟨q, c, zs, he, hT, h⟩, 0, _ => by
    refine ⟨q, c, hT, fun j v hv => ?_⟩
    rw [he, Nat.zero_mul, Nat.zero_add, List.getElem?_append_left ?_]
    · exact hv
    · rcases Nat.lt_or_ge j (tcells t.h q t.ks.length c).length with h | h
      · exact h
      · rw [List.getElem?_eq_none (by exact h)] at hv; cases hv
  | t :: ts, xs, ⟨q, c, zs, he, hT, h⟩, i + 1, hi => by
    obtain ⟨q', c', h1, h2⟩ := h.get i (by simpa using hi)
    refine ⟨q', c', h1, fun j v hv => ?_⟩
    rw [he, List.getElem?_append_right (by simp [tcells]; omega)]
    have e : (i + 1) * 8 + j - (tcells t.h q t.ks.length c).length = i * 8 + j := by simp [tcells]; omega
    rw [e]
    exact h2 j v hv
theorem Flat.stay {w W : World} (hb : Below w.heap.size w W) : ∀ {ts : List Tm} {xs : List Value}, Flat w xs ts → Flat W xs ts
  | [], xs, h => h
  | t :: ts, xs, ⟨q, c, zs, he, hT, h⟩ => ⟨q, c, zs, he, hT.below hb, h.stay hb⟩
/-- A row that the call owns, of terms whose kids are there, is terms in memory. -/
theorem kids_of_own {w W : World} {B e g n c : Nat} {xs : List Value} {ts : List Tm} (h : W.ownsRow B e 8 (.slice (some ⟨g, 0, none⟩) n c) n xs) (hf : Flat w xs ts) (hb : Below w.heap.size w W) (hn : ts.length = n) : Kids W (some ⟨g, 0, none⟩) ts := by
  have hf' := hf.stay hb
  have each : ∀ i, ∃ r : Option Addr × Nat, i < ts.length → TmIs W (tget ts i).h r.1 (tget ts i).ks.length r.2 (tget ts i) ∧ ∀ j v, (tcells (tget ts i).h r.1 (tget ts i).ks.length r.2)[j]? = some v → xs[i * 8 + j]? = some v := by
    intro i
    by_cases hi : i < ts.length
    · obtain ⟨q, c, h1, h2⟩ := hf'.get i hi
      exact ⟨(q, c), fun _ => ⟨h1, h2⟩⟩
    · exact ⟨(none, 0), fun h => absurd h hi⟩
  obtain ⟨R, hR⟩ := Classical.axiomOfChoice each
  refine .atkids g 0 ts (fun i => (R i).1) (fun i => (R i).2) (fun i hi => (hR i hi).1.ok) (fun i hi j v hv => ?_) (fun i hi => (hR i hi).1.cap) (fun i hi => (hR i hi).1.kids)
  have hx := (hR i hi).2 j v hv
  have hj : j < 8 := by
    rcases Nat.lt_or_ge j 8 with h | h
    · exact h
    · rw [List.getElem?_eq_none (by simpa [tcells] using h)] at hv; cases hv
  rw [Nat.zero_add, h.cellAt (i * 8 + j) (by omega), hx]

theorem infoTerm : (Tryz.prog.info? 29).map (fun i => (i.zero, i.size, i.bytes)) = some (some (.agg #[.int .u8 0, .int .u8 0, .int .i64 0, .int .i64 0, .string ⟨#[]⟩, .string ⟨#[]⟩, .string ⟨#[]⟩, .slice none 0 0]), 8, 96) := by kernel_rfl
end Term
end Go.Proofs.YtlmaphaipcfppaaGreatDoor
