/- Books beside each other, and rows of types that a statement makes. -/
import Derived.Test.YtjchplgapaeagaaDoorUnGreat
import Derived.Maps.AppendAt
namespace Go.Proofs.YtjchplgapaeagaaDoor
open Go.RowKit
set_option linter.unusedVariables false
set_option linter.unusedSimpArgs false
namespace Types

section
variable {P P' : Nat → Bool} {w w' W : World} {k k1 k2 : Bk} {n n1 n2 m m1 m2 : Nat} {S S1 S2 : (Nat → Ty) → Prop} {σ σ1 σ2 : Nat → Ty}
theorem Book.kpP (h : Book P k w n S σ m) (hk : Kp (PK k) W w') : Kp P W w' := hk.mono fun b hb => pk_true ⟨fun e => (by subst e; rw [h.low.1] at hb; cases hb), fun e => (by subst e; rw [h.low.2.1] at hb; cases hb), fun e => (by subst e; rw [h.low.2.2.1] at hb; cases hb)⟩
/-- Where one book is written the other one stays. -/
theorem Book.other (h1 : Book P k1 w n1 S1 σ1 m1) (h2 : Book P k2 w n2 S2 σ2 m2) (hk : Kp (PK k1) w w') (hd : PK k1 k2.b = true ∧ PK k1 k2.s = true ∧ PK k1 k2.i = true) : Book P k2 w' n2 S2 σ2 m2 :=
  h2.keep hk (fun b hb => pk_true ⟨fun e => (by subst e; rw [h1.low.1] at hb; cases hb), fun e => (by subst e; rw [h1.low.2.1] at hb; cases hb), fun e => (by subst e; rw [h1.low.2.2.1] at hb; cases hb)⟩) hd.1 hd.2.1 hd.2.2
theorem Kp.below_of {w0 : World} (h : Kp P w w') (hb : Below w0.heap.size w0 w) (hp : ∀ b, b < w0.heap.size → P b = true) : Below w0.heap.size w0 w' :=
  ⟨h.os.trans hb.os, h.tape.trans hb.tape, h.output.trans hb.output, Nat.le_trans hb.size h.size, fun b hlt => (h.block b (Nat.lt_of_lt_of_le hlt hb.size) (hp b hlt)).trans (hb.block b hlt)⟩
end
theorem allOne_congr_mem {ts ts' : List Ty} (h : ∀ t, t ∈ ts ↔ t ∈ ts') (θ : Nat → Ty) : AllOne ts θ ↔ AllOne ts' θ :=
  ⟨fun k s hs s' hs' => k s ((h s).2 hs) s' ((h s').2 hs'), fun k s hs s' hs' => k s ((h s).1 hs) s' ((h s').1 hs')⟩
/-- Two books that make the same the same, and what they answer of the same types. -/
theorem bj_two {P1 P2 : Nat → Bool} {k1 k2 : Bk} {n m : Nat} {S : (Nat → Ty) → Prop} {σ : Nat → Ty} {ts ts' : List Ty} {w1 w1' w2 w2' : World} {en1 en2 : Ending} (h1 : BjEnd P1 k1 n m S σ ts w1 en1 w1') (h2 : BjEnd P2 k2 n m S σ ts' w2 en2 w2') (hm : ∀ t, t ∈ ts ↔ t ∈ ts') :
    ∃ b S' σ' m', en1 = .returned (.bool b) ∧ en2 = .returned (.bool b) ∧ Book P1 k1 w1' n S' σ' m' ∧ Book P2 k2 w2' n S' σ' m' ∧ m' ≤ n + m + nvK ts + nvK ts' ∧ (b = true → ∀ θ, S' θ ↔ S θ ∧ AllOne ts θ) ∧ (b = false → S' = S ∧ σ' = σ) := by
  obtain ⟨_, ⟨e1, b1, n1⟩ | ⟨e1, a1, σ1, b1⟩⟩ := h1 <;> obtain ⟨_, ⟨e2, b2, n2⟩ | ⟨e2, a2, σ2, b2⟩⟩ := h2
  · exact ⟨false, S, σ, m, e1, e2, b1, b2, by omega, (fun h => by cases h), fun _ => ⟨rfl, rfl⟩⟩
  · exfalso
    rcases n1 with ⟨t, ht, hh⟩ | n1
    · rw [a2 t ((hm t).1 ht)] at hh; cases hh
    · exact n1 _ ⟨b2.isSen.is.1, (allOne_congr_mem hm _).2 b2.isSen.is.2⟩
  · exfalso
    rcases n2 with ⟨t, ht, hh⟩ | n2
    · rw [a1 t ((hm t).2 ht)] at hh; cases hh
    · exact n2 _ ⟨b1.isSen.is.1, (allOne_congr_mem hm _).1 b1.isSen.is.2⟩
  · have hb2 := b2.sol (S' := fun θ => S θ ∧ AllOne ts θ) fun θ => and_congr Iff.rfl (allOne_congr_mem hm θ).symm
    have e := isSen_eq b1.isSen hb2.isSen
    subst e
    exact ⟨true, _, σ1, n + m + nvK ts + nvK ts', e1, e2, b1.most (by omega), hb2.most (by omega), Nat.le_refl _, fun _ θ => Iff.rfl, fun h => by cases h⟩
/-- A row of types that a statement makes: its cells, and its types' kids, which lie elsewhere. -/
def RowL (P : Nat → Bool) (B : Nat) (v : Value) (ts : List Ty) (W : World) : Prop := ∃ xs, W.ownsRow B 25 3 v ts.length xs ∧ Flat (veil (seen P v) W) xs ts
section
variable {P : Nat → Bool} {B : Nat} {v v' : Value} {ts : List Ty} {W W' W3 : World}
theorem RowL.empty {g : Nat} (hB : B ≤ g) (h : W.heap[g]? = some (.cells #[] 25 (0, 0))) : RowL P B (.slice (some ⟨g, 0, none⟩) 0 0) [] W :=
  ⟨[], ⟨rfl, .inr ⟨g, 0, #[], rfl, hB, h, Nat.le_refl _, by unfold maxLen; omega, rfl, rfl⟩⟩, rfl⟩
theorem RowL.below (h : RowL P B v ts W) (hb : Below W.heap.size W W') : RowL P B v ts W' := by
  obtain ⟨xs, h1, h2⟩ := h
  exact ⟨xs, own_all h1 hb, h2.reads (veil_to fun b hbl hp => ⟨hp, hb.block b hbl⟩)⟩
theorem RowL.kp {P' : Nat → Bool} (h : RowL P B v ts W) (hk : Kp P' W W') (hp : ∀ b, P b = true → P' b = true) (ho : ∀ b, v.ownBlock = some b → P' b = true) : RowL P B v ts W' := by
  obtain ⟨xs, h1, h2⟩ := h
  refine ⟨xs, ⟨h1.1, h1.2.imp id ?_⟩, h2.reads (veil_to fun b hbl hb => ⟨hb, hk.block b hbl (hp b (seen_le hb))⟩)⟩
  rintro ⟨g, cap, cur, rfl, hg, hh, r⟩
  exact ⟨g, cap, cur, rfl, hg, (hk.block g (lt_of_block hh) (ho g rfl)).trans hh, r⟩
theorem RowL.slice (h : RowL P B v ts W) : ∃ a c, v = .slice a ts.length c ∧ c ≤ maxLen ∧ ts.length ≤ c := by
  obtain ⟨xs, h1, _⟩ := h; exact own_slice h1
/-- One type more. -/
theorem RowL.step {xs : List Value} {t : Ty} {hd : Hd} {q : Option Addr} {l c : Nat} (ho : W.ownsRow B 25 3 v ts.length xs) (hf : Flat (veil (seen P v) W) xs ts) (hT : TyIs (veil (seen P v) W) hd q l c t)
    (ho3 : W3.ownsRow B 25 3 v' (ts.length + 1) (xs ++ tcells hd q l c)) (hgr : W.grownBy W3 v.ownBlock) (hat : v'.ownBlock = v.ownBlock ∨ v'.ownBlock = some W.heap.size) : RowL P B v' (ts ++ [t]) W3 := by
  have key : Reads (veil (seen P v) W) (veil (seen P v') W3) := veil_to fun b hb hp => by
    have hp' := of_decide_eq_true (Bool.and_eq_true_iff.1 hp).2
    refine ⟨seen_of (seen_le hp) ?_, hgr.block b hb fun e => hp' e.symm⟩
    rcases hat with e | e <;> rw [e]
    · exact hp'
    · intro e2; injection e2 with e2; omega
  exact ⟨xs ++ tcells hd q l c, by rw [List.length_append]; exact ho3, (hf.reads key).append (Flat.one (hT.reads' key))⟩
theorem RowL.kids {a : Option Addr} {c : Nat} (h : RowL P B (.slice a ts.length c) ts W) (hp : ∀ b, B ≤ b → b < W.heap.size → P b = true) : Kids (veil P W) a ts := by
  obtain ⟨xs, h1, h2⟩ := h
  by_cases h0 : ts.length = 0
  · rw [List.length_eq_zero_iff.1 h0]; exact .nokids _
  · obtain ⟨g, rfl, hg⟩ := own_at h1 (by omega)
    refine kids_of_flat (fun j u hu => ?_) (h2.reads (veil_to fun b hb hp => ⟨seen_le hp, rfl⟩))
    have hc := row_cell h1 hu
    rw [World.cell?_of_block (veil_at (hp g hg (own_row_lt h1 rfl).1))]
    exact hc
/-- What lies below a row's blocks is seen beside it. -/
theorem ty_seen {w0 : World} {xs : List Value} {n : Nat} (ho : W.ownsRow B 25 3 v n xs) {hd : Hd} {q : Option Addr} {l c : Nat} {t : Ty} (hT : TyIs (veil P w0) hd q l c t) (hb : Below w0.heap.size w0 W) (hB : w0.heap.size ≤ B) : TyIs (veil (seen P v) W) hd q l c t :=
  hT.reads' (veil_to fun b hlt hp => ⟨seen_of hp fun e => by have := (own_row_lt ho e).2; omega, hb.block b hlt⟩)
end
/-- What lies behind a book's blocks stays where the book is written. -/
theorem ty_kp {k : Bk} {W W' : World} {M : Nat} {hd : Hd} {q : Option Addr} {l c : Nat} {t : Ty} (hT : TyIs (veil (from_ M) W) hd q l c t) (hk : Kp (PK k) W W') (hM : k.b < M ∧ k.s < M ∧ k.i < M) : TyIs (veil (from_ M) W') hd q l c t :=
  hT.reads' (veil_to fun b hb hp => by
    have h1 : M ≤ b := of_decide_eq_true hp
    exact ⟨hp, hk.block b hb (pk_true (by omega))⟩)
theorem ty_bel {W W' : World} {M : Nat} {hd : Hd} {q : Option Addr} {l c : Nat} {t : Ty} (hT : TyIs (veil (from_ M) W) hd q l c t) (hb : Below W.heap.size W W') : TyIs (veil (from_ M) W') hd q l c t := hT.reads' (veil_to fun b hlt hp => ⟨hp, hb.block b hlt⟩)
theorem few_rev {ts : List Ty} (h : Few ts) : Few ts.reverse := ⟨by rw [List.length_reverse]; exact h.1, fun t ht => h.2 t (List.mem_reverse.1 ht)⟩
theorem rev_take {ts : List Ty} {j : Nat} (h : j < ts.length) : ts.reverse.take (j + 1) = ts.reverse.take j ++ [tget ts (ts.length - 1 - j)] := by
  have h' : j < ts.reverse.length := by rw [List.length_reverse]; exact h
  rw [take_tget _ _ h']
  congr 2
  have e := tget_at h'
  rw [List.getElem?_reverse h, tget_at (by omega)] at e
  exact (Option.some.inj e).symm
end Types
end Go.Proofs.YtjchplgapaeagaaDoor
