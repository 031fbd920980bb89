/- The walk of the program's Size. -/
import Derived.Test.YtpedmaomogigmaaDoorTermEachSize
import Derived.IntWalk
namespace Go.Proofs.YtpedmaomogigmaaDoor
open Go.RowKit
set_option linter.unusedVariables false
namespace Term

def SizeI (w0 : World) (N : Nat) (r : Nat) (n : Nat) (W : World) : Prop := Below w0.heap.size w0 W ∧ w0.heap.size ≤ N ∧ W.heap[N]? = some (.cells #[.int .i64 n] 3 (0, 0)) ∧ n + r ≤ 1000000
theorem SizeI.goes {w0 : World} {N : Nat} : Goes w0 N (SizeI w0 N) where
  base := fun r s W k => Reads.of_below k.1
  has := fun r s W k => lt_of_block k.2.2.1
  keep := fun r s W W' k hb => ⟨k.1.trans (hb.mono k.1.size), k.2.1, (hb.block N (lt_of_block k.2.2.1)).trans k.2.2.1, k.2.2.2⟩
  less := fun r r' s W k hr => ⟨k.1, k.2.1, k.2.2.1, by have := k.2.2.2; omega⟩
def oneMore (n : Nat) (_ : Tm) : Nat := n + 1
theorem sum_one : ∀ m : Nat, (∀ (t : Tm) (n : Nat), wt t ≤ m → (foT (fun _ _ => true) oneMore t n).2 = n + wt t) ∧ (∀ (ts : List Tm) (n : Nat), wts ts ≤ m → (foK (fun _ _ => true) oneMore ts n).2 = n + wts ts) := by
  intro m
  induction m with
  | zero =>
    refine ⟨fun t s h => by have := wt_pos t; omega, fun ts s h => ?_⟩
    cases ts with
    | nil => rw [foK_nil, wts_nil]; rfl
    | cons t ts => rw [wts_cons] at h; have := wt_pos t; omega
  | succ m ih =>
    have hT : ∀ (t : Tm) (n : Nat), wt t ≤ m + 1 → (foT (fun _ _ => true) oneMore t n).2 = n + wt t := by
      intro t n h
      have hk := wt_ks t
      rw [foT_eq, if_pos rfl, ih.2 t.ks _ (by omega)]
      unfold oneMore
      omega
    refine ⟨hT, fun ts => ?_⟩
    induction ts with
    | nil => intro n _; rw [foK_nil, wts_nil]; rfl
    | cons t ts ihs =>
      intro n h
      rw [wts_cons] at h
      rw [foK_cons, if_pos ((foK_true oneMore (m + 1)).1 t n (by omega)), ihs _ (by omega), hT t n (by omega), wts_cons]
      omega
theorem sumK_one (ts : List Tm) : sumK oneMore ts 0 = wts ts := by
  unfold sumK
  rw [(sum_one (wts ts)).2 ts 0 (Nat.le_refl _)]
  omega

set_option maxHeartbeats 1600000 in
theorem size1_walk (w0 : World) (N : Nat) : Sees 29 oneMore w0 N (SizeI w0 N) := by
  intro r n W t h p l c hi hT
  obtain ⟨hb, hN, hh, hn⟩ := hi
  obtain ⟨k, op, pl, nn, nm, ar, ex⟩ := h
  have cN := cell_of_one hh
  have fN := free_of_one hh
  have hNl := lt_of_block hh
  have hbox : ∀ O : Obj, Below W.heap.size W (W.alloc O) := fun O => (Below.refl _ _).alloc (Nat.le_refl _) O
  have hend : ∀ O : Obj, SizeI w0 N r (oneMore n t) ((W.setCell ⟨N, 0, none⟩ (.int .i64 ((n : Int) + 1))).alloc O) := fun O =>
    SizeI.goes.keep _ _ _ _ ⟨hb.setCell (by exact hN) _, hN, one_setCell hh, by unfold oneMore; omega⟩ ((Below.refl _ _).alloc (Nat.le_refl _) O)
  have hst : ∀ O : Obj, Stays N W ((W.setCell ⟨N, 0, none⟩ (.int .i64 ((n : Int) + 1))).alloc O) := fun O => ((Stays.refl N W).set _).alloc O
  have HE := Lib.hid hend; have HS := Lib.hid hst
  clear hbox hend hst hb hh hT hN
  go_enter Tryd.func29, Tryd.ntmps29
  go_wp2
  go_end0
  exact ⟨rfl, HE.out _, HS.out _⟩

set_option maxHeartbeats 1600000 in
theorem size_walk (ts : List Tm) (p : Option Addr) (l d : Nat) (w : World) (hl : ts.length = l) (hlm : l ≤ maxLen) (hk : Kids w p ts) (hw : wts ts ≤ 1000000) :
    Calls Tryd.prog 16 #[.slice p l d] w fun e w' => e = .returned (.int .i64 (wts ts : Nat)) ∧ Below w.heap.size w w' := by
  have h1 := eachSize_walk oneMore w w.heap.size (SizeI w w.heap.size) SizeI.goes (size1_walk w w.heap.size)
  have hbox : ∀ O : Obj, Below w.heap.size w (w.alloc O) := fun O => (Below.refl _ _).alloc (Nat.le_refl _) O
  have hs : SizeI w w.heap.size (0 + wts ts) 0 (w.alloc (.cells #[.int .i64 0] 3)) := ⟨hbox _, Nat.le_refl _, heap_alloc_new _ _, by omega⟩
  have H1 := Lib.hid h1; have HS := Lib.hid hs; have HBOX := Lib.hid hbox; have HK := Lib.hid hk; have HL := Lib.hid hl; have HLM := Lib.hid hlm; have HW := Lib.hid hw
  clear h1 hs hbox hk hl hlm hw
  go_enter Tryd.func16, Tryd.ntmps16
  go_wp2_with (fail)
  refine (H1.out ts p l d 0 0 _ HL.out HLM.out HK.out HS.out).mono ?_
  rintro e w1 ⟨rfl, hi1, hs1⟩
  rw [sumK_one] at hi1
  obtain ⟨hb1, _, hh1, _⟩ := hi1
  have c1 := cell_of_one hh1
  have HB1 := Lib.hid hb1
  have HW2 := HW.out
  generalize hX : wts ts = X at *
  have HX := Lib.hid hX
  clear hX hb1 hs1 hh1
  go_wp2
  go_ret
  exact ⟨ret_i64 (by rw [HX.out]), HB1.out⟩
end Term
end Go.Proofs.YtpedmaomogigmaaDoor
