/- The walk of the program's Has. -/
import Derived.Test.YtpedmaomogigmaaDoorTermFoldHas
namespace Go.Proofs.YtpedmaomogigmaaDoor
open Go.RowKit
set_option linter.unusedVariables false
namespace Term

def HasI (w0 : World) (N : Nat) (kind : Int) (r : Nat) (_ : Unit) (W : World) : Prop := Below w0.heap.size w0 W ∧ w0.heap.size ≤ N ∧ W.heap[N]? = some (.cells #[.int .u8 kind] 5 (0, 0))
theorem HasI.goes {w0 : World} {N : Nat} {kind : Int} : Goes w0 N (HasI w0 N kind) where
  base := fun r s W k => Reads.of_below k.1
  has := fun r s W k => lt_of_block k.2.2
  keep := fun r s W W' k hb => ⟨k.1.trans (hb.mono k.1.size), k.2.1, (hb.block N (lt_of_block k.2.2)).trans k.2.2⟩
  less := fun r r' s W k hr => k
def notKind (kind : Int) (_ : Unit) (t : Tm) : Bool := decide (t.h.k ≠ kind)
def noStep (_ : Unit) (_ : Tm) : Unit := ()
mutual
/-- Is one of the nodes of a kind? -/
def hasT (kind : Int) : Tm → Bool
  | .node h l => decide (h.k = kind) || hasK kind l
def hasK (kind : Int) : List Tm → Bool
  | [] => false
  | t :: ts => hasT kind t || hasK kind ts
end
theorem hasT_eq (kind : Int) (t : Tm) : hasT kind t = (decide (t.h.k = kind) || hasK kind t.ks) := by
  cases t
  conv => lhs; unfold hasT
  rfl
theorem hasK_nil (kind : Int) : hasK kind [] = false := by unfold hasK; rfl
theorem hasK_cons (kind : Int) (t : Tm) (ts : List Tm) : hasK kind (t :: ts) = (hasT kind t || hasK kind ts) := by conv => lhs; unfold hasK
theorem fo_has (kind : Int) : ∀ m : Nat, (∀ (t : Tm) (n : Unit), wt t ≤ m → (foT (notKind kind) noStep t n).1 = !hasT kind t) ∧ (∀ (ts : List Tm) (n : Unit), wts ts ≤ m → (foK (notKind kind) noStep ts n).1 = !hasK kind ts) := by
  intro m
  induction m with
  | zero =>
    refine ⟨fun t s h => by have := wt_pos t; omega, fun ts s h => ?_⟩
    cases ts with
    | nil => rw [foK_nil, hasK_nil]; rfl
    | cons t ts => rw [wts_cons] at h; have := wt_pos t; omega
  | succ m ih =>
    have hT : ∀ (t : Tm) (n : Unit), wt t ≤ m + 1 → (foT (notKind kind) noStep t n).1 = !hasT kind t := by
      intro t n h
      have hk := wt_ks t
      rw [foT_eq, hasT_eq]
      by_cases he : t.h.k = kind
      · have : notKind kind n t = false := by unfold notKind; simp [he]
        rw [this]
        simp [he]
      · have : notKind kind n t = true := by unfold notKind; simp [he]
        rw [if_pos this, ih.2 t.ks _ (by omega)]
        simp [he]
    refine ⟨hT, fun ts => ?_⟩
    induction ts with
    | nil => intro n _; rw [foK_nil, hasK_nil]; rfl
    | cons t ts ihs =>
      intro n h
      rw [wts_cons] at h
      rw [foK_cons, hasK_cons]
      have h1 := hT t n (by omega)
      cases hh : hasT kind t
      · rw [hh] at h1
        rw [if_pos (by rw [h1]; rfl), ihs _ (by omega)]
        rfl
      · rw [hh] at h1
        rw [h1]
        rfl

set_option maxHeartbeats 1600000 in
theorem has1_walk (w0 : World) (N : Nat) (kind : Int) : Steps 30 (notKind kind) noStep w0 N N (HasI w0 N kind) := by
  intro r n W t h p l c hi hT
  obtain ⟨hb, hN, hh⟩ := hi
  have he : notKind kind n t = (h.k != kind) := by unfold notKind; rw [hT.head]; simp [bne, Bool.beq_eq_decide_eq]
  obtain ⟨k, op, pl, nn, nm, ar, ex⟩ := h
  have cN := cell_of_one hh
  have hNl := lt_of_block hh
  have hbox : ∀ O : Obj, Below W.heap.size W (W.alloc O) := fun O => (Below.refl _ _).alloc (Nat.le_refl _) O
  have hend : ∀ O : Obj, HasI w0 N kind r (noStep n t) (W.alloc O) := fun O =>
    ⟨hb.trans ((hbox O).mono hb.size), hN, ((hbox O).block N hNl).trans hh⟩
  have hst : ∀ O : Obj, Stays N W (W.alloc O) := fun O => (Stays.refl N W).alloc O
  have HE := Lib.hid hend; have HS := Lib.hid hst; have HEQ := Lib.hid he
  clear hbox hend hst hb hh hT hN he
  go_enter Tryd.func30, Tryd.ntmps30
  go_wp2
  go_ret
  exact ⟨ret_bool HEQ.out.symm, (fun _ => HE.out _), HS.out _⟩

set_option maxHeartbeats 1600000 in
theorem has_walk (kind : Int) (ts : List Tm) (p : Option Addr) (l d : Nat) (w : World) (hl : ts.length = l) (hlm : l ≤ maxLen) (hk : Kids w p ts) :
    Calls Tryd.prog 18 #[.int .u8 kind, .slice p l d] w fun e w' => e = .returned (.bool (hasK kind ts)) ∧ Below w.heap.size w w' := by
  have h1 := allHas_walk (notKind kind) noStep w w.heap.size w.heap.size (HasI w w.heap.size kind) HasI.goes (has1_walk w w.heap.size kind)
  have hbox : ∀ O : Obj, Below w.heap.size w (w.alloc O) := fun O => (Below.refl _ _).alloc (Nat.le_refl _) O
  have hs : HasI w w.heap.size kind (0 + wts ts) () (w.alloc (.cells #[.int .u8 kind] 5)) := ⟨hbox _, Nat.le_refl _, heap_alloc_new _ _⟩
  have hr := (fo_has kind (wts ts)).2 ts () (Nat.le_refl _)
  have H1 := Lib.hid h1; have HS := Lib.hid hs; have HBOX := Lib.hid hbox; have HK := Lib.hid hk; have HL := Lib.hid hl; have HLM := Lib.hid hlm; have HR := Lib.hid hr
  clear h1 hs hbox hk hl hlm hr
  go_enter Tryd.func18, Tryd.ntmps18
  go_wp2_with (fail)
  refine (H1.out (wts ts) ts p l d 0 () _ (Nat.le_refl _) HL.out HLM.out HK.out HS.out).mono ?_
  rintro e w1 ⟨rfl, hi1, hs1⟩
  have hb1 := (HBOX.out _).trans (hs1.below (B := w.heap.size) (Nat.le_refl _) (HBOX.out (.cells #[.int .u8 kind] 5)).size)
  have HB1 := Lib.hid hb1
  rw [HR.out]
  generalize hX : hasK kind ts = X at *
  have HX := Lib.hid hX
  clear hX hb1 hs1 hi1
  cases X
  all_goals
    go_wp2
    go_ret
    exact ⟨ret_bool (by rw [HX.out]), HB1.out⟩
end Term
end Go.Proofs.YtpedmaomogigmaaDoor
