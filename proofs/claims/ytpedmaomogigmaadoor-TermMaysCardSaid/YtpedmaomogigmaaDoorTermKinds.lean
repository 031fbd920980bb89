/- The walk of the program's Kinds. -/
import Derived.Test.YtpedmaomogigmaaDoorTermEachKinds
import Derived.Test.YtpedmaomogigmaaDoorTermAllW
namespace Go.Proofs.YtpedmaomogigmaaDoor
open Go.RowKit
set_option linter.unusedVariables false
namespace Term

/-- The kinds so far, in a row of bytes that the cell N tells. -/
def KindsI (w0 : World) (N : Nat) (r : Nat) (xs : List Int) (W : World) : Prop :=
  Below w0.heap.size w0 W ∧ w0.heap.size ≤ N ∧ xs.length + r ≤ 1000000 ∧ ∃ v, W.heap[N]? = some (.cells #[v] 32 (0, 0)) ∧ W.ownsRow (N + 1) 5 1 v xs.length (xs.map (Value.int .u8))
theorem KindsI.goes {w0 : World} {N : Nat} : Goes w0 N (KindsI w0 N) where
  base := fun r s W k => Reads.of_below k.1
  has := fun r s W ⟨_, _, _, v, h, _⟩ => lt_of_block h
  keep := fun r s W W' ⟨h1, h2, h3, v, h4, h5⟩ hb => ⟨h1.trans (hb.mono h1.size), h2, h3, v, (hb.block N (lt_of_block h4)).trans h4, own_below h5 hb⟩
  less := fun r r' s W ⟨h1, h2, h3, h4⟩ hr => ⟨h1, h2, by omega, h4⟩
def addKind (xs : List Int) (t : Tm) : List Int := xs ++ [t.h.k]
def kindsOf (ts : List Tm) : List Int := (flatK ts).map fun t => t.h.k
theorem sum_kinds : ∀ m : Nat, (∀ (t : Tm) (n : List Int), wt t ≤ m → (foT (fun _ _ => true) addKind t n).2 = n ++ (flatT t).map fun t => t.h.k) ∧ (∀ (ts : List Tm) (n : List Int), wts ts ≤ m → (foK (fun _ _ => true) addKind ts n).2 = n ++ (flatK ts).map fun t => t.h.k) := by
  intro m
  induction m with
  | zero =>
    refine ⟨fun t s h => by have := wt_pos t; omega, fun ts s h => ?_⟩
    cases ts with
    | nil => rw [foK_nil, flatK_nil]; simp
    | cons t ts => rw [wts_cons] at h; have := wt_pos t; omega
  | succ m ih =>
    have hT : ∀ (t : Tm) (n : List Int), wt t ≤ m + 1 → (foT (fun _ _ => true) addKind t n).2 = n ++ (flatT t).map fun t => t.h.k := by
      intro t n h
      have hk := wt_ks t
      rw [foT_eq, if_pos rfl, ih.2 t.ks _ (by omega), flatT_eq]
      unfold addKind
      simp
    refine ⟨hT, fun ts => ?_⟩
    induction ts with
    | nil => intro n _; rw [foK_nil, flatK_nil]; simp
    | cons t ts ihs =>
      intro n h
      rw [wts_cons] at h
      rw [foK_cons, if_pos ((foK_true addKind (m + 1)).1 t n (by omega)), ihs _ (by omega), hT t n (by omega), flatK_cons]
      simp
theorem sumK_kinds (ts : List Tm) : sumK addKind ts [] = kindsOf ts := by
  unfold sumK kindsOf
  rw [(sum_kinds (wts ts)).2 ts [] (Nat.le_refl _)]
  simp
theorem kindsOf_len (ts : List Tm) : (kindsOf ts).length = wts ts := by unfold kindsOf; rw [List.length_map, flatK_len]

theorem Stays.grown {N : Nat} {a w w' : World} {row : Option Nat} (h : Stays N a w) (hg : w.grownBy w' row) (hr : ∀ k, row = some k → Owns N w k) : Stays N a w' :=
  h.trans ⟨hg.os, hg.tape, hg.output, hg.size, fun i hi hn => hg.block i hi (fun e => hn (hr i e.symm))⟩
theorem row_owned {N : Nat} {W : World} {v : Value} {n : Nat} {xs : List Value} (h : W.ownsRow (N + 1) 5 1 v n xs) : ∀ k, v.ownBlock = some k → Owns N W k := by
  intro k hk
  rcases h.2 with ⟨rfl, _⟩ | ⟨g, cap, cur, rfl, hg, hh, _⟩
  · simp [Value.ownBlock] at hk
  · simp [Value.ownBlock] at hk
    subst hk
    exact .inr ⟨by omega, cur, hh⟩
theorem own_some {w : World} {base e size n : Nat} {v : Value} {xs : List Value} (h : w.ownsRow base e size v (n + 1) xs) : ∃ g cap, v = .slice (some ⟨g, 0, none⟩) (n + 1) cap := by
  rcases h.2 with ⟨_, h0⟩ | ⟨g, cap, _, hv, _⟩
  · omega
  · exact ⟨g, cap, hv⟩
/-- What a node adds. -/
theorem kinds_step {w0 W W2 w3 : World} {N r : Nat} {xs : List Int} {v v3 : Value} {k : Int} (hb : Below w0.heap.size w0 W) (hN : w0.heap.size ≤ N) (hl : xs.length + (r + 1) ≤ 1000000) (hW : Below W.heap.size W W2)
    (hh : W2.heap[N]? = some (.cells #[v] 32 (0, 0))) (ho : W2.ownsRow (N + 1) 5 1 v xs.length (xs.map (Value.int .u8)))
    (ho3 : w3.ownsRow (N + 1) 5 1 v3 (xs.length + 1) (xs.map (Value.int .u8) ++ [.int .u8 k])) (hg3 : W2.grownBy w3 v.ownBlock) :
    w3.heap[N]? = some (.cells #[v] 32 (0, 0)) ∧ KindsI w0 N r (xs ++ [k]) (w3.setCell ⟨N, 0, none⟩ v3) ∧ Stays N W (w3.setCell ⟨N, 0, none⟩ v3) := by
  have hne : ∀ g, v.ownBlock = some g → N + 1 ≤ g := fun g hg => (ho.lt g hg).1
  have h1 : w3.heap[N]? = some (.cells #[v] 32 (0, 0)) := by
    rw [hg3.block N (lt_of_block hh) (fun e => by have := hne N e.symm; omega), hh]
  have hst : Stays N W w3 := (Stays.of_below hW).grown hg3 (row_owned ho)
  refine ⟨h1, ⟨((hb.trans (hW.mono hb.size)).grown hg3 (Nat.le_trans hb.size hW.size) (fun g hg => by have := hne g hg; omega)).setCell (by exact hN) _, hN, by simp; omega, v3, one_setCell h1, ?_⟩, hst.set _⟩
  have := ownsRow_setCell_below ho3 (a := ⟨N, 0, none⟩) (by show N < N + 1; omega) v3
  rw [List.length_append, List.map_append]
  exact this
theorem infoByte : (Tryd.prog.info? 5).map (fun i => (i.zero, i.size, i.bytes)) = some (some (.int .u8 0), 1, 1) := by kernel_rfl

set_option maxHeartbeats 3200000 in
theorem kinds1_walk (w0 : World) (N : Nat) : Sees 28 addKind w0 N (KindsI w0 N) := by
  intro r xs W t h p l c hi hT
  obtain ⟨i0, hi0, hz0, hz1, hz2⟩ := info_parts infoByte
  have HI0 := Lib.hid hi0; have HZ0 := Lib.hid hz0; have HZ1 := Lib.hid hz1; have HZ2 := Lib.hid hz2
  obtain ⟨hb, hN, hn, v, hh, ho⟩ := hi
  have hhd := hT.head
  obtain ⟨k, op, pl, nn, nm, ar, ex⟩ := h
  have hk : addKind xs t = xs ++ [k] := by unfold addKind; rw [hhd]
  have cN := cell_of_one hh
  have hNl := lt_of_block hh
  have hbox : ∀ O O' : Obj, Below W.heap.size W ((W.alloc O).alloc O') := fun O O' => ((Below.refl _ _).alloc (Nat.le_refl _) O).alloc (by simp) O'
  have hh2 : ∀ O O' : Obj, ((W.alloc O).alloc O').heap[N]? = some (.cells #[v] 32 (0, 0)) := fun O O' => ((hbox O O').block N hNl).trans hh
  have hstep := fun (O O' : Obj) (v3 : Value) (w3 : World) ho3 hg3 => kinds_step (r := r) (k := k) (v3 := v3) (w3 := w3) hb hN hn (hbox O O') (hh2 O O') ((ho.alloc O).alloc O') ho3 hg3
  have hown := fun O O' => (ho.alloc O).alloc O'
  have HSTEP := Lib.hid hstep; have HOWN := Lib.hid hown; have HK := Lib.hid hk; have HN := Lib.hid hn; have HNL := Lib.hid hNl
  clear hbox hstep hb hh hT hN ho hh2 hk hn hi0 hz0 hz1 hz2 hhd hown
  go_enter Tryd.func28, Tryd.ntmps28
  go_wp2_with (at_builtin; (refine wpList_append_own _ rfl (.tmp 3) (.tmp 7) 32 rfl (N + 1) 5 i0 (.int .u8 0) 1 1 Tryd.underlying32 HI0.out HZ0.out HZ1.out HZ2.out rfl (by decide) v xs.length (xs.map (Value.int .u8)) rfl (HOWN.out _ _) ⟨W.heap.size + 1, 0, none⟩ 1 1 [.int .u8 k] rfl rfl (by intro j u hj; match j, hj with | 0, hj => (simp at hj; subst hj; simp [Addr.add, go_sem]) | _ + 1, hj => (simp at hj)) (by intro u hu; simp at hu; subst hu; rfl) (by have := HN.out; unfold maxLen; omega) (by have := HN.out; omega) (by have := HNL.out; simp; omega) ?_; intro v3 w3 hown3 hgrow3 hnil3; obtain ⟨g3, cap3, rfl⟩ := own_some hown3; have hs3 := HSTEP.out _ _ _ w3 hown3 hgrow3; have c3 := cell_of_one hs3.1; have f3 := free_of_one hs3.1; have HS3 := Lib.hid hs3.2; clear hown3 hgrow3 hnil3 hs3))
  go_end0
  exact ⟨rfl, by rw [HK.out]; exact HS3.out.1, HS3.out.2⟩

/-- How Kinds ends: a row of its own. -/
def KindsEnd (xs : List Int) (w : World) (e : Ending) (w' : World) : Prop := ∃ v, e = .returned v ∧ w'.ownsRow (w.heap.size + 1) 5 1 v xs.length (xs.map (Value.int .u8)) ∧ Below w.heap.size w w'
set_option maxHeartbeats 1600000 in
theorem kinds_walk (ts : List Tm) (p : Option Addr) (l d : Nat) (w : World) (hl : ts.length = l) (hlm : l ≤ maxLen) (hk : Kids w p ts) (hw : wts ts ≤ 1000000) :
    Calls Tryd.prog 15 #[.slice p l d] w (KindsEnd (kindsOf ts) w) := by
  have h1 := eachKinds_walk addKind w w.heap.size (KindsI w w.heap.size) KindsI.goes (kinds1_walk w w.heap.size)
  have hbox : ∀ O : Obj, Below w.heap.size w (w.alloc O) := fun O => (Below.refl _ _).alloc (Nat.le_refl _) O
  have hs : KindsI w w.heap.size (0 + wts ts) [] (w.alloc (.cells #[.slice none 0 0] 32)) := ⟨hbox _, Nat.le_refl _, by simp; omega, _, heap_alloc_new _ _, World.ownsRow_nil _ _ _ _⟩
  have H1 := Lib.hid h1; have HS := Lib.hid hs; have HK := Lib.hid hk; have HL := Lib.hid hl; have HLM := Lib.hid hlm
  clear h1 hs hbox hk hl hlm hw
  go_enter Tryd.func15, Tryd.ntmps15
  go_wp2_with (fail)
  refine (H1.out ts p l d 0 [] _ HL.out HLM.out HK.out HS.out).mono ?_
  rintro e w1 ⟨rfl, hi1, hs1⟩
  rw [sumK_kinds] at hi1
  obtain ⟨hb1, _, _, v, hh1, ho1⟩ := hi1
  have c1 := cell_of_one hh1
  have HB1 := Lib.hid hb1; have HO1 := Lib.hid ho1
  clear hb1 hs1 hh1 ho1
  go_wp2
  go_ret
  exact ⟨v, rfl, HO1.out, HB1.out⟩
end Term
end Go.Proofs.YtpedmaomogigmaaDoor
