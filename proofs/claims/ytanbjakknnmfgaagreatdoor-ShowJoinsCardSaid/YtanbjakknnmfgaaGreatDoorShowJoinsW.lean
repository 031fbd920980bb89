/- The walk of layer 6's statement on pairs' and functions' texts. (Written by wip/tools/showjoins.py.) -/
import Derived.Test.YtanbjakknnmfgaaGreatDoorGShowC
import Derived.Test.YtanbjakknnmfgaaGreatDoorGShowD
import Derived.Test.YtanbjakknnmfgaaGreatDoorGShowA
import Derived.Test.YtanbjakknnmfgaaGreatDoorGTermD
import Derived.OrdersHeld
import Derived.Deep.Cut
import Derived.Deep.CutRange
import Derived.Deep.DeepCutAuto
namespace Go.Proofs.YtanbjakknnmfgaaGreatDoor
open Go.RowKit
set_option linter.unusedVariables false
set_option linter.unusedSimpArgs false
namespace Show
open Parse (wFn wArrow wOpen wShut wComma)
open Term (Tm Hd TmIs Kids tget wt wts okT okK mayT greatB Flat tcells)
open Token (jb)

theorem mayP_none (t : Tm) : mayP [] t = mayT t := by unfold mayP allExn; simp
/-- Is what is handed in too great? -/
def bigJ (a b : Tm) (arg : ByteArray) : Bool := greatB a || greatB b || decide (400 < wt a + wt b) || decide (100 < arg.size)
theorem bigJ_no {a b : Tm} {arg : ByteArray} (h : bigJ a b arg = false) : wt a + wt b ≤ 400 ∧ arg.size ≤ 100 := by
  unfold bigJ at h
  simp only [Bool.or_eq_false_iff, decide_eq_false_iff_not] at h
  omega
def e0 : ByteArray := ⟨#[]⟩
/-- The pair of two terms, as it is laid. -/
def pairT (a b : Tm) : Tm := .node ⟨3, 0, 0, 0, ⟨#[]⟩, ⟨#[]⟩, ⟨#[]⟩⟩ [a, b]
def fnT (arg : ByteArray) (a : Tm) : Tm := .node ⟨11, 0, 0, 0, ⟨#[]⟩, arg, ⟨#[]⟩⟩ [a]
theorem cell_block {W : World} {N : Nat} {cs : Array Value} {ty : TypeId} (h : W.heap[N]? = some (.cells cs ty (0, 0))) {j : Nat} {u : Value} (hu : cs[j]? = some u) : W.cell? ⟨N, j, none⟩ = some u := by
  unfold World.cell?
  rw [h]
  simpa using hu
theorem pair_is {w W : World} {ha hb : Hd} {pa pb : Option Addr} {la ca lb cb N : Nat} {ta tb : Tm} {ty : TypeId} (hTa : TmIs w ha pa la ca ta) (hTb : TmIs w hb pb lb cb tb) (hW : Below w.heap.size w W)
    (hN : W.heap[N]? = some (.cells (tcells ha pa la ca ++ tcells hb pb lb cb).toArray ty (0, 0))) : TmIs W ⟨3, 0, 0, 0, ⟨#[]⟩, ⟨#[]⟩, ⟨#[]⟩⟩ (some ⟨N, 0, none⟩) 2 2 (pairT ta tb) :=
  ⟨rfl, rfl, ⟨by decide, by decide, by decide, by decide, by unfold maxLen; decide, by unfold maxLen; decide, by unfold maxLen; decide⟩, by unfold maxLen; decide,
    Term.kids_of_flat (fun j u hu => cell_block hN (by simpa using hu)) ((Flat.one (hTa.below hW)).append (Flat.one (hTb.below hW)))⟩
theorem fn_is {w W : World} {ha : Hd} {pa : Option Addr} {la ca N : Nat} {ta : Tm} {arg : ByteArray} {ty : TypeId} (hTa : TmIs w ha pa la ca ta) (harg : arg.size ≤ maxLen) (hW : Below w.heap.size w W)
    (hN : W.heap[N]? = some (.cells (tcells ha pa la ca).toArray ty (0, 0))) : TmIs W ⟨11, 0, 0, 0, ⟨#[]⟩, arg, ⟨#[]⟩⟩ (some ⟨N, 0, none⟩) 1 1 (fnT arg ta) :=
  ⟨rfl, rfl, ⟨show (0 : Int) ≤ 11 ∧ (11 : Int) ≤ 255 by decide, show (0 : Int) ≤ 0 ∧ (0 : Int) ≤ 255 by decide, show (-9223372036854775808 : Int) ≤ 0 ∧ (0 : Int) ≤ 9223372036854775807 by decide, show (-9223372036854775808 : Int) ≤ 0 ∧ (0 : Int) ≤ 9223372036854775807 by decide, show (0 : Nat) ≤ maxLen by (unfold maxLen; decide), harg, show (0 : Nat) ≤ maxLen by (unfold maxLen; decide)⟩, by unfold maxLen; decide,
    Term.kids_of_flat (fun j u hu => cell_block hN (by simpa using hu)) (Flat.one (hTa.below hW))⟩
theorem may_pair {a b : Tm} (h : wt a + wt b ≤ 400) : mayT (pairT a b) = (mayT a && mayT b) := by
  have h1 : wt (pairT a b) = wt a + wt b + 1 := by unfold pairT; rw [Term.wt_ks]; show wts [a, b] + 1 = _; rw [Term.wts_cons, Term.wts_cons, Term.wts_nil]; omega
  have h2 : okT (pairT a b) = (okT a && okT b) := by
    rw [Term.okT_eq]
    show (Term.nodeB ⟨3, 0, 0, 0, ⟨#[]⟩, ⟨#[]⟩, ⟨#[]⟩⟩ 2 && okK [a, b]) = _
    have : Term.nodeB ⟨3, 0, 0, 0, ⟨#[]⟩, ⟨#[]⟩, ⟨#[]⟩⟩ 2 = true := by kernel_rfl
    rw [this, Term.okK_cons, Term.okK_cons, Term.okK_nil]
    simp
  unfold mayT
  rw [h1, h2, decide_eq_true (by omega : wt a + wt b + 1 ≤ 4000), decide_eq_true (by omega : wt a ≤ 4000), decide_eq_true (by omega : wt b ≤ 4000)]
  simp
theorem may_fn {a : Tm} {arg : ByteArray} (h : wt a ≤ 400) (hm : mayT (fnT arg a) = true) : mayT a = true := by
  unfold mayT at hm
  rw [Bool.and_eq_true, Term.okT_eq, Bool.and_eq_true] at hm
  have h2 : okK [a] = true := hm.2.2
  rw [Term.okK_cons, Bool.and_eq_true] at h2
  unfold mayT
  rw [h2.1, decide_eq_true (by omega : wt a ≤ 4000)]
  rfl
theorem may_ok {a : Tm} (h : mayT a = true) : okT a = true ∧ wt a ≤ 4000 := by
  unfold mayT at h
  rw [Bool.and_eq_true] at h
  exact ⟨h.2, of_decide_eq_true h.1⟩
theorem asW0 {t : Tm} : asW 0 (kdT t) = wordsT t := asW_zero t
theorem text_pair {a b : Tm} (ha : okT a = true) (hb : okT b = true) : ((((⟨#[40, 32]⟩ ++ jb (wordsT a)) ++ ⟨#[32, 44, 32]⟩) ++ jb (wordsT b)) ++ ⟨#[32, 41]⟩ : ByteArray) = jb (wordsT (pairT a b)) := by
  have na := words_nil ha
  have nb := words_nil hb
  have ew : wordsT (pairT a b) = wOpen :: ((wordsT a ++ wComma :: wordsT b) ++ [wShut]) := by
    rw [wordsT_eq]
    show wOpen :: (twoW (wordsK [a, b]) 0 wComma 0 ++ [wShut]) = _
    unfold twoW
    rw [kd_get (show 0 < [a, b].length by simp), kd_get (show 1 < [a, b].length by simp)]
    show wOpen :: (asW 0 (kdT a) ++ wComma :: asW 0 (kdT b) ++ [wShut]) = _
    rw [asW0, asW0]
  apply bl_inj
  rw [ew]
  simp [bl_append, bl_app, bl_cons, bl_one, List.append_assoc, na, nb]
  simp [bl, wOpen, wShut, wComma]
theorem text_fn {a : Tm} {arg : ByteArray} (ha : okT a = true) : (((⟨#[102, 110, 32]⟩ ++ arg) ++ ⟨#[32, 61, 62, 32]⟩) ++ jb (wordsT a) : ByteArray) = jb (wordsT (fnT arg a)) := by
  have na := words_nil ha
  have ew : wordsT (fnT arg a) = wFn :: arg :: wArrow :: wordsT a := by
    rw [wordsT_eq]
    show [wFn, arg, wArrow] ++ (kd (wordsK [a]) 0).2 = _
    rw [kd_get (show 0 < [a].length by simp)]
    rfl
  apply bl_inj
  rw [ew]
  simp [bl_append, bl_app, bl_cons, bl_one, List.append_assoc, na]
  simp [bl, wFn, wArrow]
set_option maxRecDepth 100000 in
set_option maxHeartbeats 25600000 in
theorem joins_walk (ka opa pla nna : Int) (nma ara exa : ByteArray) (pa : Option Addr) (la ca : Nat) (ta : Tm) (kb opb plb nnb : Int) (nmb arb exb : ByteArray) (pb : Option Addr) (lb cb : Nat) (tb : Tm) (arg : ByteArray) (w : World) (hTa : TmIs w ⟨ka, opa, pla, nna, nma, ara, exa⟩ pa la ca ta) (hTb : TmIs w ⟨kb, opb, plb, nnb, nmb, arb, exb⟩ pb lb cb tb) (hsz : arg.size ≤ maxLen) (hl : Words.Laid2 w)
    :
    Calls Tryz.prog 11 #[.agg #[.int .u8 ka, .int .u8 opa, .int .i64 pla, .int .i64 nna, .string nma, .string ara, .string exa, .slice pa la ca], .agg #[.int .u8 kb, .int .u8 opb, .int .i64 plb, .int .i64 nnb, .string nmb, .string arb, .string exb, .slice pb lb cb], .string arg] w fun e w' => e = .returned (.bool true) ∧ Below w.heap.size w w' := by
  have hmono : ∀ V W : World, (V.heap[w.heap.size]? = some (.cells #[.int .u8 ka, .int .u8 opa, .int .i64 pla, .int .i64 nna, .string nma, .string ara, .string exa, .slice pa la ca] 29 (0, 0)) ∧ V.heap[w.heap.size + 1]? = some (.cells #[.int .u8 kb, .int .u8 opb, .int .i64 plb, .int .i64 nnb, .string nmb, .string arb, .string exb, .slice pb lb cb] 29 (0, 0)) ∧ Below w.heap.size w V) → Below V.heap.size V W → (W.heap[w.heap.size]? = some (.cells #[.int .u8 ka, .int .u8 opa, .int .i64 pla, .int .i64 nna, .string nma, .string ara, .string exa, .slice pa la ca] 29 (0, 0)) ∧ W.heap[w.heap.size + 1]? = some (.cells #[.int .u8 kb, .int .u8 opb, .int .i64 plb, .int .i64 nnb, .string nmb, .string arb, .string exb, .slice pb lb cb] 29 (0, 0)) ∧ Below w.heap.size w W) := by
    rintro V W ⟨s0, s1, sB⟩ hb
    exact ⟨(hb.block _ (lt_of_block s0)).trans s0, (hb.block _ (lt_of_block s1)).trans s1, Term.below_then sB hb sB.size⟩
  have hga := fun v (hv : greatB ta = v) V (h : V.heap[w.heap.size]? = some (.cells #[.int .u8 ka, .int .u8 opa, .int .i64 pla, .int .i64 nna, .string nma, .string ara, .string exa, .slice pa la ca] 29 (0, 0)) ∧ V.heap[w.heap.size + 1]? = some (.cells #[.int .u8 kb, .int .u8 opb, .int .i64 plb, .int .i64 nnb, .string nmb, .string arb, .string exb, .slice pb lb cb] 29 (0, 0)) ∧ Below w.heap.size w V) => (Term.great_walk ta _ pa la ca V (hTa.below h.2.2)).mono fun e w' (hh : e = .returned (.bool (greatB ta)) ∧ Below V.heap.size V w') => (⟨hv ▸ hh.1, hmono V w' h hh.2⟩ : e = .returned (.bool v) ∧ w'.heap[w.heap.size]? = some (.cells #[.int .u8 ka, .int .u8 opa, .int .i64 pla, .int .i64 nna, .string nma, .string ara, .string exa, .slice pa la ca] 29 (0, 0)) ∧ w'.heap[w.heap.size + 1]? = some (.cells #[.int .u8 kb, .int .u8 opb, .int .i64 plb, .int .i64 nnb, .string nmb, .string arb, .string exb, .slice pb lb cb] 29 (0, 0)) ∧ Below w.heap.size w w')
  have hgb := fun v (hv : greatB tb = v) V (h : V.heap[w.heap.size]? = some (.cells #[.int .u8 ka, .int .u8 opa, .int .i64 pla, .int .i64 nna, .string nma, .string ara, .string exa, .slice pa la ca] 29 (0, 0)) ∧ V.heap[w.heap.size + 1]? = some (.cells #[.int .u8 kb, .int .u8 opb, .int .i64 plb, .int .i64 nnb, .string nmb, .string arb, .string exb, .slice pb lb cb] 29 (0, 0)) ∧ Below w.heap.size w V) => (Term.great_walk tb _ pb lb cb V (hTb.below h.2.2)).mono fun e w' (hh : e = .returned (.bool (greatB tb)) ∧ Below V.heap.size V w') => (⟨hv ▸ hh.1, hmono V w' h hh.2⟩ : e = .returned (.bool v) ∧ w'.heap[w.heap.size]? = some (.cells #[.int .u8 ka, .int .u8 opa, .int .i64 pla, .int .i64 nna, .string nma, .string ara, .string exa, .slice pa la ca] 29 (0, 0)) ∧ w'.heap[w.heap.size + 1]? = some (.cells #[.int .u8 kb, .int .u8 opb, .int .i64 plb, .int .i64 nnb, .string nmb, .string arb, .string exb, .slice pb lb cb] 29 (0, 0)) ∧ Below w.heap.size w w')
  have haa := fun (hw : wt ta ≤ 1000000) V (h : V.heap[w.heap.size]? = some (.cells #[.int .u8 ka, .int .u8 opa, .int .i64 pla, .int .i64 nna, .string nma, .string ara, .string exa, .slice pa la ca] 29 (0, 0)) ∧ V.heap[w.heap.size + 1]? = some (.cells #[.int .u8 kb, .int .u8 opb, .int .i64 plb, .int .i64 nnb, .string nmb, .string arb, .string exb, .slice pb lb cb] 29 (0, 0)) ∧ Below w.heap.size w V) => (Term.refAll_walk (wt ta) ta _ pa la ca w V (Nat.le_refl _) hw hTa h.2.2).mono fun e w' hh => (by
    obtain ⟨g, c', xs, he, ho, _, hb⟩ := hh
    have hc := (Term.own_slice ho)
    obtain ⟨_, c2, hv, hc2, hc3⟩ := hc
    injection hv with _ _ hv
    subst hv
    exact ⟨g, c', he, ⟨hc2, hc3⟩, hmono V w' h hb⟩ : ∃ g c', e = .returned (.slice (some ⟨g, 0, none⟩) (wt ta) c') ∧ (c' ≤ 9223372036854775807 ∧ wt ta ≤ c') ∧ w'.heap[w.heap.size]? = some (.cells #[.int .u8 ka, .int .u8 opa, .int .i64 pla, .int .i64 nna, .string nma, .string ara, .string exa, .slice pa la ca] 29 (0, 0)) ∧ w'.heap[w.heap.size + 1]? = some (.cells #[.int .u8 kb, .int .u8 opb, .int .i64 plb, .int .i64 nnb, .string nmb, .string arb, .string exb, .slice pb lb cb] 29 (0, 0)) ∧ Below w.heap.size w w')
  have hab := fun (hw : wt tb ≤ 1000000) V (h : V.heap[w.heap.size]? = some (.cells #[.int .u8 ka, .int .u8 opa, .int .i64 pla, .int .i64 nna, .string nma, .string ara, .string exa, .slice pa la ca] 29 (0, 0)) ∧ V.heap[w.heap.size + 1]? = some (.cells #[.int .u8 kb, .int .u8 opb, .int .i64 plb, .int .i64 nnb, .string nmb, .string arb, .string exb, .slice pb lb cb] 29 (0, 0)) ∧ Below w.heap.size w V) => (Term.refAll_walk (wt tb) tb _ pb lb cb w V (Nat.le_refl _) hw hTb h.2.2).mono fun e w' hh => (by
    obtain ⟨g, c', xs, he, ho, _, hb⟩ := hh
    have hc := (Term.own_slice ho)
    obtain ⟨_, c2, hv, hc2, hc3⟩ := hc
    injection hv with _ _ hv
    subst hv
    exact ⟨g, c', he, ⟨hc2, hc3⟩, hmono V w' h hb⟩ : ∃ g c', e = .returned (.slice (some ⟨g, 0, none⟩) (wt tb) c') ∧ (c' ≤ 9223372036854775807 ∧ wt tb ≤ c') ∧ w'.heap[w.heap.size]? = some (.cells #[.int .u8 ka, .int .u8 opa, .int .i64 pla, .int .i64 nna, .string nma, .string ara, .string exa, .slice pa la ca] 29 (0, 0)) ∧ w'.heap[w.heap.size + 1]? = some (.cells #[.int .u8 kb, .int .u8 opb, .int .i64 plb, .int .i64 nnb, .string nmb, .string arb, .string exb, .slice pb lb cb] 29 (0, 0)) ∧ Below w.heap.size w w')
  have hS0 : ((w.alloc (.cells #[.int .u8 ka, .int .u8 opa, .int .i64 pla, .int .i64 nna, .string nma, .string ara, .string exa, .slice pa la ca] 29)).alloc (.cells #[.int .u8 kb, .int .u8 opb, .int .i64 plb, .int .i64 nnb, .string nmb, .string arb, .string exb, .slice pb lb cb] 29)).drew.heap[w.heap.size]? = some (.cells #[.int .u8 ka, .int .u8 opa, .int .i64 pla, .int .i64 nna, .string nma, .string ara, .string exa, .slice pa la ca] 29 (0, 0)) ∧ ((w.alloc (.cells #[.int .u8 ka, .int .u8 opa, .int .i64 pla, .int .i64 nna, .string nma, .string ara, .string exa, .slice pa la ca] 29)).alloc (.cells #[.int .u8 kb, .int .u8 opb, .int .i64 plb, .int .i64 nnb, .string nmb, .string arb, .string exb, .slice pb lb cb] 29)).drew.heap[w.heap.size + 1]? = some (.cells #[.int .u8 kb, .int .u8 opb, .int .i64 plb, .int .i64 nnb, .string nmb, .string arb, .string exb, .slice pb lb cb] 29 (0, 0)) ∧ Below w.heap.size w ((w.alloc (.cells #[.int .u8 ka, .int .u8 opa, .int .i64 pla, .int .i64 nna, .string nma, .string ara, .string exa, .slice pa la ca] 29)).alloc (.cells #[.int .u8 kb, .int .u8 opb, .int .i64 plb, .int .i64 nnb, .string nmb, .string arb, .string exb, .slice pb lb cb] 29)).drew := by
    have h1 := heap_alloc_new (w.alloc (.cells #[.int .u8 ka, .int .u8 opa, .int .i64 pla, .int .i64 nna, .string nma, .string ara, .string exa, .slice pa la ca] 29)) (.cells #[.int .u8 kb, .int .u8 opb, .int .i64 plb, .int .i64 nnb, .string nmb, .string arb, .string exb, .slice pb lb cb] 29)
    rw [heap_alloc_size] at h1
    exact ⟨(Below.heap_alloc _ _ _ (by simp)).trans (heap_alloc_new w _), h1, (((Below.refl w.heap.size w).alloc (Nat.le_refl _) _).alloc (by simp) _).drew⟩
  have HS0 := Lib.hid hS0; have HGA := Lib.hid hga; have HGB := Lib.hid hgb; have HAA' := Lib.hid haa; have HAB' := Lib.hid hab
  clear hmono hga hgb haa hab hS0
  have hsa := fun W (hb : Below w.heap.size w W) => showTerm_walk _ pa la ca ta W (hTa.below hb) (hl.below hb)
  have hsb := fun W (hb : Below w.heap.size w W) => showTerm_walk _ pb lb cb tb W (hTb.below hb) (hl.below hb)
  have haw := fun W (hb : Below w.heap.size w W) => awake_walk W (hl.below hb)
  have HTA := Lib.hid hTa; have HTB := Lib.hid hTb; have HL := Lib.hid hl; have HSA := Lib.hid hsa; have HSB := Lib.hid hsb; have HAW := Lib.hid haw
  clear hsa hsb haw hTa hTb hl
  have hal : arg.size ≤ 9223372036854775807 := by unfold maxLen at hsz; exact hsz
  clear hsz
  go_enter Tryz.func11, Tryz.ntmps11
  go_upto_region 1 with (fail)
  go_cut [36] (fun s wx => s = .bool (bigJ ta tb arg) ∧ (wx.heap[w.heap.size]? = some (.cells #[.int .u8 ka, .int .u8 opa, .int .i64 pla, .int .i64 nna, .string nma, .string ara, .string exa, .slice pa la ca] 29 (0, 0)) ∧ wx.heap[w.heap.size + 1]? = some (.cells #[.int .u8 kb, .int .u8 opb, .int .i64 plb, .int .i64 nnb, .string nmb, .string arb, .string exb, .slice pb lb cb] 29 (0, 0)) ∧ Below w.heap.size w wx))
  case first =>
    by_cases ga : greatB ta = true
    · have hG : bigJ ta tb arg = true := by unfold bigJ; rw [ga]; simp
      have HG := Lib.hid hG; have HGA1 := Lib.hid (HGA.out true ga)
      clear hG ga
      go_wp2_with (fail)
      refine wp_region_held_drew (S := fun V => (V.heap[w.heap.size]? = some (.cells #[.int .u8 ka, .int .u8 opa, .int .i64 pla, .int .i64 nna, .string nma, .string ara, .string exa, .slice pa la ca] 29 (0, 0)) ∧ V.heap[w.heap.size + 1]? = some (.cells #[.int .u8 kb, .int .u8 opb, .int .i64 plb, .int .i64 nnb, .string nmb, .string arb, .string exb, .slice pb lb cb] 29 (0, 0)) ∧ Below w.heap.size w V)) (by kernel_rfl) HS0.out (fun hHeld => ?_)
      refine wpAnyH_take (i := 0) (v := .agg #[.int .u8 ka, .int .u8 opa, .int .i64 pla, .int .i64 nna, .string nma, .string ara, .string exa, .slice pa la ca]) rfl (by kernel_rfl) (by kernel_rfl) (by kernel_rfl) (fun _ _ _ h => h) (Or.inl ⟨by rfl, ?_⟩) (by assumption) ?_
      · intro w' hSw
        obtain ⟨⟨b0, b1, b2, b3, b4, b5, b6, b7⟩, f0, f1, f2, f3, f4, f5, f6, f7⟩ := Parse.cells8' hSw.1
        first | go_simp | rfl
      try simp only [Act.put, List.setIfInBounds_toArray, List.set_cons_zero, List.set_cons_succ, List.getElem_toArray, List.getElem_cons_succ, List.getElem_cons_zero]
      refine wpAnyH_ready (rs := [1]) (by kernel_rfl) (by simp) ?_
      refine AllReadyH.cons rfl (fun K hK => ?_) AllReadyH.nil
      go_simp
      refine (HGA1.out _ (by assumption)).mono ?_
      rintro e w' ⟨rfl, hS'⟩
      clear hHeld
      refine hK.out _ _ hS' (fun hHeld => ?_)
      try simp only [Act.put, List.setIfInBounds_toArray, List.set_cons_zero, List.set_cons_succ, List.getElem_toArray, List.getElem_cons_succ, List.getElem_cons_zero]
      clear hK hS' K
      refine wpAnyH_take (i := 2) (v := .bool true) rfl (by kernel_rfl) (by kernel_rfl) (by kernel_rfl) (fun _ _ _ h => h) (Or.inl ⟨by rfl, ?_⟩) (by assumption) ?_
      · intro w' hSw
        first | go_simp | rfl
      try simp only [Act.put, List.setIfInBounds_toArray, List.set_cons_zero, List.set_cons_succ, List.getElem_toArray, List.getElem_cons_succ, List.getElem_cons_zero]
      refine wpAnyH_take (i := 3) (v := undef) rfl (by kernel_rfl) (by kernel_rfl) (by kernel_rfl) (fun _ _ _ h => h) (Or.inr ⟨by rfl, rfl⟩) (by assumption) ?_
      try simp only [Act.put, List.setIfInBounds_toArray, List.set_cons_zero, List.set_cons_succ, List.getElem_toArray, List.getElem_cons_succ, List.getElem_cons_zero]
      refine wpAnyH_take (i := 4) (v := undef) rfl (by kernel_rfl) (by kernel_rfl) (by kernel_rfl) (fun _ _ _ h => h) (Or.inr ⟨by rfl, rfl⟩) (by assumption) ?_
      try simp only [Act.put, List.setIfInBounds_toArray, List.set_cons_zero, List.set_cons_succ, List.getElem_toArray, List.getElem_cons_succ, List.getElem_cons_zero]
      refine wpAnyH_take (i := 5) (v := .bool true) rfl (by kernel_rfl) (by kernel_rfl) (by kernel_rfl) (fun _ _ _ h => h) (Or.inl ⟨by rfl, ?_⟩) (by assumption) ?_
      · intro w' hSw
        first | go_simp | rfl
      try simp only [Act.put, List.setIfInBounds_toArray, List.set_cons_zero, List.set_cons_succ, List.getElem_toArray, List.getElem_cons_succ, List.getElem_cons_zero]
      refine wpAnyH_take (i := 6) (v := .bool true) rfl (by kernel_rfl) (by kernel_rfl) (by kernel_rfl) (fun _ _ _ h => h) (Or.inl ⟨by rfl, ?_⟩) (by assumption) ?_
      · intro w' hSw
        first | go_simp | rfl
      try simp only [Act.put, List.setIfInBounds_toArray, List.set_cons_zero, List.set_cons_succ, List.getElem_toArray, List.getElem_cons_succ, List.getElem_cons_zero]
      refine wpAnyH_take (i := 7) (v := undef) rfl (by kernel_rfl) (by kernel_rfl) (by kernel_rfl) (fun _ _ _ h => h) (Or.inr ⟨by rfl, rfl⟩) (by assumption) ?_
      try simp only [Act.put, List.setIfInBounds_toArray, List.set_cons_zero, List.set_cons_succ, List.getElem_toArray, List.getElem_cons_succ, List.getElem_cons_zero]
      refine wpAnyH_take (i := 8) (v := undef) rfl (by kernel_rfl) (by kernel_rfl) (by kernel_rfl) (fun _ _ _ h => h) (Or.inr ⟨by rfl, rfl⟩) (by assumption) ?_
      try simp only [Act.put, List.setIfInBounds_toArray, List.set_cons_zero, List.set_cons_succ, List.getElem_toArray, List.getElem_cons_succ, List.getElem_cons_zero]
      refine wpAnyH_take (i := 9) (v := undef) rfl (by kernel_rfl) (by kernel_rfl) (by kernel_rfl) (fun _ _ _ h => h) (Or.inr ⟨by rfl, rfl⟩) (by assumption) ?_
      try simp only [Act.put, List.setIfInBounds_toArray, List.set_cons_zero, List.set_cons_succ, List.getElem_toArray, List.getElem_cons_succ, List.getElem_cons_zero]
      refine wpAnyH_take (i := 10) (v := undef) rfl (by kernel_rfl) (by kernel_rfl) (by kernel_rfl) (fun _ _ _ h => h) (Or.inr ⟨by rfl, rfl⟩) (by assumption) ?_
      try simp only [Act.put, List.setIfInBounds_toArray, List.set_cons_zero, List.set_cons_succ, List.getElem_toArray, List.getElem_cons_succ, List.getElem_cons_zero]
      refine wpAnyH_take (i := 11) (v := undef) rfl (by kernel_rfl) (by kernel_rfl) (by kernel_rfl) (fun _ _ _ h => h) (Or.inr ⟨by rfl, rfl⟩) (by assumption) ?_
      try simp only [Act.put, List.setIfInBounds_toArray, List.set_cons_zero, List.set_cons_succ, List.getElem_toArray, List.getElem_cons_succ, List.getElem_cons_zero]
      refine wpAnyH_take (i := 12) (v := undef) rfl (by kernel_rfl) (by kernel_rfl) (by kernel_rfl) (fun _ _ _ h => h) (Or.inr ⟨by rfl, rfl⟩) (by assumption) ?_
      try simp only [Act.put, List.setIfInBounds_toArray, List.set_cons_zero, List.set_cons_succ, List.getElem_toArray, List.getElem_cons_succ, List.getElem_cons_zero]
      refine wpAnyH_take (i := 13) (v := undef) rfl (by kernel_rfl) (by kernel_rfl) (by kernel_rfl) (fun _ _ _ h => h) (Or.inr ⟨by rfl, rfl⟩) (by assumption) ?_
      try simp only [Act.put, List.setIfInBounds_toArray, List.set_cons_zero, List.set_cons_succ, List.getElem_toArray, List.getElem_cons_succ, List.getElem_cons_zero]
      refine wpAnyH_take (i := 14) (v := undef) rfl (by kernel_rfl) (by kernel_rfl) (by kernel_rfl) (fun _ _ _ h => h) (Or.inr ⟨by rfl, rfl⟩) (by assumption) ?_
      try simp only [Act.put, List.setIfInBounds_toArray, List.set_cons_zero, List.set_cons_succ, List.getElem_toArray, List.getElem_cons_succ, List.getElem_cons_zero]
      refine wpAnyH_take (i := 15) (v := .bool true) rfl (by kernel_rfl) (by kernel_rfl) (by kernel_rfl) (fun _ _ _ h => h) (Or.inl ⟨by rfl, ?_⟩) (by assumption) ?_
      · intro w' hSw
        first | go_simp | rfl
      try simp only [Act.put, List.setIfInBounds_toArray, List.set_cons_zero, List.set_cons_succ, List.getElem_toArray, List.getElem_cons_succ, List.getElem_cons_zero]
      refine wpAnyH_take (i := 16) (v := .bool true) rfl (by kernel_rfl) (by kernel_rfl) (by kernel_rfl) (fun _ _ _ h => h) (Or.inl ⟨by rfl, ?_⟩) (by assumption) ?_
      · intro w' hSw
        first | go_simp | rfl
      try simp only [Act.put, List.setIfInBounds_toArray, List.set_cons_zero, List.set_cons_succ, List.getElem_toArray, List.getElem_cons_succ, List.getElem_cons_zero]
      refine wpAnyH_take (i := 17) (v := undef) rfl (by kernel_rfl) (by kernel_rfl) (by kernel_rfl) (fun _ _ _ h => h) (Or.inr ⟨by rfl, rfl⟩) (by assumption) ?_
      try simp only [Act.put, List.setIfInBounds_toArray, List.set_cons_zero, List.set_cons_succ, List.getElem_toArray, List.getElem_cons_succ, List.getElem_cons_zero]
      refine wpAnyH_take (i := 18) (v := undef) rfl (by kernel_rfl) (by kernel_rfl) (by kernel_rfl) (fun _ _ _ h => h) (Or.inr ⟨by rfl, rfl⟩) (by assumption) ?_
      try simp only [Act.put, List.setIfInBounds_toArray, List.set_cons_zero, List.set_cons_succ, List.getElem_toArray, List.getElem_cons_succ, List.getElem_cons_zero]
      refine wpAnyH_take (i := 19) (v := undef) rfl (by kernel_rfl) (by kernel_rfl) (by kernel_rfl) (fun _ _ _ h => h) (Or.inr ⟨by rfl, rfl⟩) (by assumption) ?_
      try simp only [Act.put, List.setIfInBounds_toArray, List.set_cons_zero, List.set_cons_succ, List.getElem_toArray, List.getElem_cons_succ, List.getElem_cons_zero]
      refine wpAnyH_take (i := 20) (v := .bool true) rfl (by kernel_rfl) (by kernel_rfl) (by kernel_rfl) (fun _ _ _ h => h) (Or.inl ⟨by rfl, ?_⟩) (by assumption) ?_
      · intro w' hSw
        first | go_simp | rfl
      try simp only [Act.put, List.setIfInBounds_toArray, List.set_cons_zero, List.set_cons_succ, List.getElem_toArray, List.getElem_cons_succ, List.getElem_cons_zero]
      refine wpAnyH_done (by kernel_rfl) ?_ _
      go_wp2_with (fail)
      go_meet
      exact ⟨by rw [HG.out], hHeld⟩

    have ga0 : greatB ta = false := by simpa using ga
    by_cases gb : greatB tb = true
    · have hG : bigJ ta tb arg = true := by unfold bigJ; rw [gb]; simp
      have HG := Lib.hid hG; have HGA0 := Lib.hid (HGA.out false ga0); have HGB1 := Lib.hid (HGB.out true gb)
      clear hG ga ga0 gb
      go_wp2_with (fail)
      refine wp_region_held_drew (S := fun V => (V.heap[w.heap.size]? = some (.cells #[.int .u8 ka, .int .u8 opa, .int .i64 pla, .int .i64 nna, .string nma, .string ara, .string exa, .slice pa la ca] 29 (0, 0)) ∧ V.heap[w.heap.size + 1]? = some (.cells #[.int .u8 kb, .int .u8 opb, .int .i64 plb, .int .i64 nnb, .string nmb, .string arb, .string exb, .slice pb lb cb] 29 (0, 0)) ∧ Below w.heap.size w V)) (by kernel_rfl) HS0.out (fun hHeld => ?_)
      refine wpAnyH_take (i := 0) (v := .agg #[.int .u8 ka, .int .u8 opa, .int .i64 pla, .int .i64 nna, .string nma, .string ara, .string exa, .slice pa la ca]) rfl (by kernel_rfl) (by kernel_rfl) (by kernel_rfl) (fun _ _ _ h => h) (Or.inl ⟨by rfl, ?_⟩) (by assumption) ?_
      · intro w' hSw
        obtain ⟨⟨b0, b1, b2, b3, b4, b5, b6, b7⟩, f0, f1, f2, f3, f4, f5, f6, f7⟩ := Parse.cells8' hSw.1
        first | go_simp | rfl
      try simp only [Act.put, List.setIfInBounds_toArray, List.set_cons_zero, List.set_cons_succ, List.getElem_toArray, List.getElem_cons_succ, List.getElem_cons_zero]
      refine wpAnyH_ready (rs := [1]) (by kernel_rfl) (by simp) ?_
      refine AllReadyH.cons rfl (fun K hK => ?_) AllReadyH.nil
      go_simp
      refine (HGA0.out _ (by assumption)).mono ?_
      rintro e w' ⟨rfl, hS'⟩
      clear hHeld
      refine hK.out _ _ hS' (fun hHeld => ?_)
      try simp only [Act.put, List.setIfInBounds_toArray, List.set_cons_zero, List.set_cons_succ, List.getElem_toArray, List.getElem_cons_succ, List.getElem_cons_zero]
      clear hK hS' K
      refine wpAnyH_take (i := 2) (v := .bool false) rfl (by kernel_rfl) (by kernel_rfl) (by kernel_rfl) (fun _ _ _ h => h) (Or.inl ⟨by rfl, ?_⟩) (by assumption) ?_
      · intro w' hSw
        first | go_simp | rfl
      try simp only [Act.put, List.setIfInBounds_toArray, List.set_cons_zero, List.set_cons_succ, List.getElem_toArray, List.getElem_cons_succ, List.getElem_cons_zero]
      refine wpAnyH_take (i := 3) (v := .agg #[.int .u8 kb, .int .u8 opb, .int .i64 plb, .int .i64 nnb, .string nmb, .string arb, .string exb, .slice pb lb cb]) rfl (by kernel_rfl) (by kernel_rfl) (by kernel_rfl) (fun _ _ _ h => h) (Or.inl ⟨by rfl, ?_⟩) (by assumption) ?_
      · intro w' hSw
        obtain ⟨⟨b0, b1, b2, b3, b4, b5, b6, b7⟩, f0, f1, f2, f3, f4, f5, f6, f7⟩ := Parse.cells8' hSw.2.1
        first | go_simp | rfl
      try simp only [Act.put, List.setIfInBounds_toArray, List.set_cons_zero, List.set_cons_succ, List.getElem_toArray, List.getElem_cons_succ, List.getElem_cons_zero]
      refine wpAnyH_ready (rs := [4]) (by kernel_rfl) (by simp) ?_
      refine AllReadyH.cons rfl (fun K hK => ?_) AllReadyH.nil
      go_simp
      refine (HGB1.out _ (by assumption)).mono ?_
      rintro e w' ⟨rfl, hS'⟩
      clear hHeld
      refine hK.out _ _ hS' (fun hHeld => ?_)
      try simp only [Act.put, List.setIfInBounds_toArray, List.set_cons_zero, List.set_cons_succ, List.getElem_toArray, List.getElem_cons_succ, List.getElem_cons_zero]
      clear hK hS' K
      refine wpAnyH_take (i := 5) (v := .bool true) rfl (by kernel_rfl) (by kernel_rfl) (by kernel_rfl) (fun _ _ _ h => h) (Or.inl ⟨by rfl, ?_⟩) (by assumption) ?_
      · intro w' hSw
        first | go_simp | rfl
      try simp only [Act.put, List.setIfInBounds_toArray, List.set_cons_zero, List.set_cons_succ, List.getElem_toArray, List.getElem_cons_succ, List.getElem_cons_zero]
      refine wpAnyH_take (i := 6) (v := .bool true) rfl (by kernel_rfl) (by kernel_rfl) (by kernel_rfl) (fun _ _ _ h => h) (Or.inl ⟨by rfl, ?_⟩) (by assumption) ?_
      · intro w' hSw
        first | go_simp | rfl
      try simp only [Act.put, List.setIfInBounds_toArray, List.set_cons_zero, List.set_cons_succ, List.getElem_toArray, List.getElem_cons_succ, List.getElem_cons_zero]
      refine wpAnyH_take (i := 7) (v := undef) rfl (by kernel_rfl) (by kernel_rfl) (by kernel_rfl) (fun _ _ _ h => h) (Or.inr ⟨by rfl, rfl⟩) (by assumption) ?_
      try simp only [Act.put, List.setIfInBounds_toArray, List.set_cons_zero, List.set_cons_succ, List.getElem_toArray, List.getElem_cons_succ, List.getElem_cons_zero]
      refine wpAnyH_take (i := 8) (v := undef) rfl (by kernel_rfl) (by kernel_rfl) (by kernel_rfl) (fun _ _ _ h => h) (Or.inr ⟨by rfl, rfl⟩) (by assumption) ?_
      try simp only [Act.put, List.setIfInBounds_toArray, List.set_cons_zero, List.set_cons_succ, List.getElem_toArray, List.getElem_cons_succ, List.getElem_cons_zero]
      refine wpAnyH_take (i := 9) (v := undef) rfl (by kernel_rfl) (by kernel_rfl) (by kernel_rfl) (fun _ _ _ h => h) (Or.inr ⟨by rfl, rfl⟩) (by assumption) ?_
      try simp only [Act.put, List.setIfInBounds_toArray, List.set_cons_zero, List.set_cons_succ, List.getElem_toArray, List.getElem_cons_succ, List.getElem_cons_zero]
      refine wpAnyH_take (i := 10) (v := undef) rfl (by kernel_rfl) (by kernel_rfl) (by kernel_rfl) (fun _ _ _ h => h) (Or.inr ⟨by rfl, rfl⟩) (by assumption) ?_
      try simp only [Act.put, List.setIfInBounds_toArray, List.set_cons_zero, List.set_cons_succ, List.getElem_toArray, List.getElem_cons_succ, List.getElem_cons_zero]
      refine wpAnyH_take (i := 11) (v := undef) rfl (by kernel_rfl) (by kernel_rfl) (by kernel_rfl) (fun _ _ _ h => h) (Or.inr ⟨by rfl, rfl⟩) (by assumption) ?_
      try simp only [Act.put, List.setIfInBounds_toArray, List.set_cons_zero, List.set_cons_succ, List.getElem_toArray, List.getElem_cons_succ, List.getElem_cons_zero]
      refine wpAnyH_take (i := 12) (v := undef) rfl (by kernel_rfl) (by kernel_rfl) (by kernel_rfl) (fun _ _ _ h => h) (Or.inr ⟨by rfl, rfl⟩) (by assumption) ?_
      try simp only [Act.put, List.setIfInBounds_toArray, List.set_cons_zero, List.set_cons_succ, List.getElem_toArray, List.getElem_cons_succ, List.getElem_cons_zero]
      refine wpAnyH_take (i := 13) (v := undef) rfl (by kernel_rfl) (by kernel_rfl) (by kernel_rfl) (fun _ _ _ h => h) (Or.inr ⟨by rfl, rfl⟩) (by assumption) ?_
      try simp only [Act.put, List.setIfInBounds_toArray, List.set_cons_zero, List.set_cons_succ, List.getElem_toArray, List.getElem_cons_succ, List.getElem_cons_zero]
      refine wpAnyH_take (i := 14) (v := undef) rfl (by kernel_rfl) (by kernel_rfl) (by kernel_rfl) (fun _ _ _ h => h) (Or.inr ⟨by rfl, rfl⟩) (by assumption) ?_
      try simp only [Act.put, List.setIfInBounds_toArray, List.set_cons_zero, List.set_cons_succ, List.getElem_toArray, List.getElem_cons_succ, List.getElem_cons_zero]
      refine wpAnyH_take (i := 15) (v := .bool true) rfl (by kernel_rfl) (by kernel_rfl) (by kernel_rfl) (fun _ _ _ h => h) (Or.inl ⟨by rfl, ?_⟩) (by assumption) ?_
      · intro w' hSw
        first | go_simp | rfl
      try simp only [Act.put, List.setIfInBounds_toArray, List.set_cons_zero, List.set_cons_succ, List.getElem_toArray, List.getElem_cons_succ, List.getElem_cons_zero]
      refine wpAnyH_take (i := 16) (v := .bool true) rfl (by kernel_rfl) (by kernel_rfl) (by kernel_rfl) (fun _ _ _ h => h) (Or.inl ⟨by rfl, ?_⟩) (by assumption) ?_
      · intro w' hSw
        first | go_simp | rfl
      try simp only [Act.put, List.setIfInBounds_toArray, List.set_cons_zero, List.set_cons_succ, List.getElem_toArray, List.getElem_cons_succ, List.getElem_cons_zero]
      refine wpAnyH_take (i := 17) (v := undef) rfl (by kernel_rfl) (by kernel_rfl) (by kernel_rfl) (fun _ _ _ h => h) (Or.inr ⟨by rfl, rfl⟩) (by assumption) ?_
      try simp only [Act.put, List.setIfInBounds_toArray, List.set_cons_zero, List.set_cons_succ, List.getElem_toArray, List.getElem_cons_succ, List.getElem_cons_zero]
      refine wpAnyH_take (i := 18) (v := undef) rfl (by kernel_rfl) (by kernel_rfl) (by kernel_rfl) (fun _ _ _ h => h) (Or.inr ⟨by rfl, rfl⟩) (by assumption) ?_
      try simp only [Act.put, List.setIfInBounds_toArray, List.set_cons_zero, List.set_cons_succ, List.getElem_toArray, List.getElem_cons_succ, List.getElem_cons_zero]
      refine wpAnyH_take (i := 19) (v := undef) rfl (by kernel_rfl) (by kernel_rfl) (by kernel_rfl) (fun _ _ _ h => h) (Or.inr ⟨by rfl, rfl⟩) (by assumption) ?_
      try simp only [Act.put, List.setIfInBounds_toArray, List.set_cons_zero, List.set_cons_succ, List.getElem_toArray, List.getElem_cons_succ, List.getElem_cons_zero]
      refine wpAnyH_take (i := 20) (v := .bool true) rfl (by kernel_rfl) (by kernel_rfl) (by kernel_rfl) (fun _ _ _ h => h) (Or.inl ⟨by rfl, ?_⟩) (by assumption) ?_
      · intro w' hSw
        first | go_simp | rfl
      try simp only [Act.put, List.setIfInBounds_toArray, List.set_cons_zero, List.set_cons_succ, List.getElem_toArray, List.getElem_cons_succ, List.getElem_cons_zero]
      refine wpAnyH_done (by kernel_rfl) ?_ _
      go_wp2_with (fail)
      go_meet
      exact ⟨by rw [HG.out], hHeld⟩

    have gb0 : greatB tb = false := by simpa using gb
    have wa := (Term.small_of ga0).1
    have wb := (Term.small_of gb0).1
    have HGA0 := Lib.hid (HGA.out false ga0); have HGB0 := Lib.hid (HGB.out false gb0); have HAA := Lib.hid (HAA'.out (by omega)); have HAB := Lib.hid (HAB'.out (by omega))
    have hbig : bigJ ta tb arg = (decide (400 < wt ta + wt tb) || decide (100 < arg.size)) := by unfold bigJ; rw [ga0, gb0]; simp
    have hadd : IntKind.i64.wrap ((wt ta : Int) + (wt tb : Int)) = (wt ta : Int) + (wt tb : Int) := IntWalk.i64_in _ (by omega)
    clear ga ga0 gb gb0
    by_cases hs : 400 < wt ta + wt tb
    · have hG : bigJ ta tb arg = true := by rw [hbig, decide_eq_true hs]; rfl
      have hsi : (400 : Int) < (wt ta : Int) + (wt tb : Int) := by omega
      have HG := Lib.hid hG
      clear hG hbig hs wa wb
      go_wp2_with (fail)
      refine wp_region_held_drew (S := fun V => (V.heap[w.heap.size]? = some (.cells #[.int .u8 ka, .int .u8 opa, .int .i64 pla, .int .i64 nna, .string nma, .string ara, .string exa, .slice pa la ca] 29 (0, 0)) ∧ V.heap[w.heap.size + 1]? = some (.cells #[.int .u8 kb, .int .u8 opb, .int .i64 plb, .int .i64 nnb, .string nmb, .string arb, .string exb, .slice pb lb cb] 29 (0, 0)) ∧ Below w.heap.size w V)) (by kernel_rfl) HS0.out (fun hHeld => ?_)
      refine wpAnyH_take (i := 0) (v := .agg #[.int .u8 ka, .int .u8 opa, .int .i64 pla, .int .i64 nna, .string nma, .string ara, .string exa, .slice pa la ca]) rfl (by kernel_rfl) (by kernel_rfl) (by kernel_rfl) (fun _ _ _ h => h) (Or.inl ⟨by rfl, ?_⟩) (by assumption) ?_
      · intro w' hSw
        obtain ⟨⟨b0, b1, b2, b3, b4, b5, b6, b7⟩, f0, f1, f2, f3, f4, f5, f6, f7⟩ := Parse.cells8' hSw.1
        first | go_simp | rfl
      try simp only [Act.put, List.setIfInBounds_toArray, List.set_cons_zero, List.set_cons_succ, List.getElem_toArray, List.getElem_cons_succ, List.getElem_cons_zero]
      refine wpAnyH_ready (rs := [1]) (by kernel_rfl) (by simp) ?_
      refine AllReadyH.cons rfl (fun K hK => ?_) AllReadyH.nil
      go_simp
      refine (HGA0.out _ (by assumption)).mono ?_
      rintro e w' ⟨rfl, hS'⟩
      clear hHeld
      refine hK.out _ _ hS' (fun hHeld => ?_)
      try simp only [Act.put, List.setIfInBounds_toArray, List.set_cons_zero, List.set_cons_succ, List.getElem_toArray, List.getElem_cons_succ, List.getElem_cons_zero]
      clear hK hS' K
      refine wpAnyH_take (i := 2) (v := .bool false) rfl (by kernel_rfl) (by kernel_rfl) (by kernel_rfl) (fun _ _ _ h => h) (Or.inl ⟨by rfl, ?_⟩) (by assumption) ?_
      · intro w' hSw
        first | go_simp | rfl
      try simp only [Act.put, List.setIfInBounds_toArray, List.set_cons_zero, List.set_cons_succ, List.getElem_toArray, List.getElem_cons_succ, List.getElem_cons_zero]
      refine wpAnyH_take (i := 3) (v := .agg #[.int .u8 kb, .int .u8 opb, .int .i64 plb, .int .i64 nnb, .string nmb, .string arb, .string exb, .slice pb lb cb]) rfl (by kernel_rfl) (by kernel_rfl) (by kernel_rfl) (fun _ _ _ h => h) (Or.inl ⟨by rfl, ?_⟩) (by assumption) ?_
      · intro w' hSw
        obtain ⟨⟨b0, b1, b2, b3, b4, b5, b6, b7⟩, f0, f1, f2, f3, f4, f5, f6, f7⟩ := Parse.cells8' hSw.2.1
        first | go_simp | rfl
      try simp only [Act.put, List.setIfInBounds_toArray, List.set_cons_zero, List.set_cons_succ, List.getElem_toArray, List.getElem_cons_succ, List.getElem_cons_zero]
      refine wpAnyH_ready (rs := [4]) (by kernel_rfl) (by simp) ?_
      refine AllReadyH.cons rfl (fun K hK => ?_) AllReadyH.nil
      go_simp
      refine (HGB0.out _ (by assumption)).mono ?_
      rintro e w' ⟨rfl, hS'⟩
      clear hHeld
      refine hK.out _ _ hS' (fun hHeld => ?_)
      try simp only [Act.put, List.setIfInBounds_toArray, List.set_cons_zero, List.set_cons_succ, List.getElem_toArray, List.getElem_cons_succ, List.getElem_cons_zero]
      clear hK hS' K
      refine wpAnyH_take (i := 5) (v := .bool false) rfl (by kernel_rfl) (by kernel_rfl) (by kernel_rfl) (fun _ _ _ h => h) (Or.inl ⟨by rfl, ?_⟩) (by assumption) ?_
      · intro w' hSw
        first | go_simp | rfl
      try simp only [Act.put, List.setIfInBounds_toArray, List.set_cons_zero, List.set_cons_succ, List.getElem_toArray, List.getElem_cons_succ, List.getElem_cons_zero]
      refine wpAnyH_take (i := 6) (v := .bool false) rfl (by kernel_rfl) (by kernel_rfl) (by kernel_rfl) (fun _ _ _ h => h) (Or.inl ⟨by rfl, ?_⟩) (by assumption) ?_
      · intro w' hSw
        first | go_simp | rfl
      try simp only [Act.put, List.setIfInBounds_toArray, List.set_cons_zero, List.set_cons_succ, List.getElem_toArray, List.getElem_cons_succ, List.getElem_cons_zero]
      refine wpAnyH_take (i := 7) (v := .agg #[.int .u8 ka, .int .u8 opa, .int .i64 pla, .int .i64 nna, .string nma, .string ara, .string exa, .slice pa la ca]) rfl (by kernel_rfl) (by kernel_rfl) (by kernel_rfl) (fun _ _ _ h => h) (Or.inl ⟨by rfl, ?_⟩) (by assumption) ?_
      · intro w' hSw
        obtain ⟨⟨b0, b1, b2, b3, b4, b5, b6, b7⟩, f0, f1, f2, f3, f4, f5, f6, f7⟩ := Parse.cells8' hSw.1
        first | go_simp | rfl
      try simp only [Act.put, List.setIfInBounds_toArray, List.set_cons_zero, List.set_cons_succ, List.getElem_toArray, List.getElem_cons_succ, List.getElem_cons_zero]
      refine wpAnyH_take (i := 10) (v := .agg #[.int .u8 kb, .int .u8 opb, .int .i64 plb, .int .i64 nnb, .string nmb, .string arb, .string exb, .slice pb lb cb]) rfl (by kernel_rfl) (by kernel_rfl) (by kernel_rfl) (fun _ _ _ h => h) (Or.inl ⟨by rfl, ?_⟩) (by assumption) ?_
      · intro w' hSw
        obtain ⟨⟨b0, b1, b2, b3, b4, b5, b6, b7⟩, f0, f1, f2, f3, f4, f5, f6, f7⟩ := Parse.cells8' hSw.2.1
        first | go_simp | rfl
      try simp only [Act.put, List.setIfInBounds_toArray, List.set_cons_zero, List.set_cons_succ, List.getElem_toArray, List.getElem_cons_succ, List.getElem_cons_zero]
      refine wpAnyH_ready (rs := [8]) (by kernel_rfl) (by simp) ?_
      refine AllReadyH.cons rfl (fun K hK => ?_) AllReadyH.nil
      go_simp
      refine (HAA.out _ (by assumption)).mono ?_
      rintro e w' ⟨g8, c8, rfl, hc8, hS'⟩
      clear hHeld
      refine hK.out _ _ hS' (fun hHeld => ?_)
      try simp only [Act.put, List.setIfInBounds_toArray, List.set_cons_zero, List.set_cons_succ, List.getElem_toArray, List.getElem_cons_succ, List.getElem_cons_zero]
      clear hK hS' K
      refine wpAnyH_take (i := 9) (v := .int .i64 (wt ta)) rfl (by kernel_rfl) (by kernel_rfl) (by kernel_rfl) (fun _ _ _ h => h) (Or.inl ⟨by rfl, ?_⟩) (by assumption) ?_
      · intro w' hSw
        first | go_simp | rfl
      try simp only [Act.put, List.setIfInBounds_toArray, List.set_cons_zero, List.set_cons_succ, List.getElem_toArray, List.getElem_cons_succ, List.getElem_cons_zero]
      refine wpAnyH_ready (rs := [11]) (by kernel_rfl) (by simp) ?_
      refine AllReadyH.cons rfl (fun K hK => ?_) AllReadyH.nil
      go_simp
      refine (HAB.out _ (by assumption)).mono ?_
      rintro e w' ⟨g11, c11, rfl, hc11, hS'⟩
      clear hHeld
      refine hK.out _ _ hS' (fun hHeld => ?_)
      try simp only [Act.put, List.setIfInBounds_toArray, List.set_cons_zero, List.set_cons_succ, List.getElem_toArray, List.getElem_cons_succ, List.getElem_cons_zero]
      clear hK hS' K
      refine wpAnyH_take (i := 12) (v := .int .i64 (wt tb)) rfl (by kernel_rfl) (by kernel_rfl) (by kernel_rfl) (fun _ _ _ h => h) (Or.inl ⟨by rfl, ?_⟩) (by assumption) ?_
      · intro w' hSw
        first | go_simp | rfl
      try simp only [Act.put, List.setIfInBounds_toArray, List.set_cons_zero, List.set_cons_succ, List.getElem_toArray, List.getElem_cons_succ, List.getElem_cons_zero]
      refine wpAnyH_take (i := 13) (v := .int .i64 ((wt ta : Int) + (wt tb : Int))) rfl (by kernel_rfl) (by kernel_rfl) (by kernel_rfl) (fun _ _ _ h => h) (Or.inl ⟨by rfl, ?_⟩) (by assumption) ?_
      · intro w' hSw
        first | go_simp | rfl
      try simp only [Act.put, List.setIfInBounds_toArray, List.set_cons_zero, List.set_cons_succ, List.getElem_toArray, List.getElem_cons_succ, List.getElem_cons_zero]
      refine wpAnyH_take (i := 14) (v := .bool true) rfl (by kernel_rfl) (by kernel_rfl) (by kernel_rfl) (fun _ _ _ h => h) (Or.inl ⟨by rfl, ?_⟩) (by assumption) ?_
      · intro w' hSw
        first | go_simp | rfl
      try simp only [Act.put, List.setIfInBounds_toArray, List.set_cons_zero, List.set_cons_succ, List.getElem_toArray, List.getElem_cons_succ, List.getElem_cons_zero]
      refine wpAnyH_take (i := 15) (v := .bool true) rfl (by kernel_rfl) (by kernel_rfl) (by kernel_rfl) (fun _ _ _ h => h) (Or.inl ⟨by rfl, ?_⟩) (by assumption) ?_
      · intro w' hSw
        first | go_simp | rfl
      try simp only [Act.put, List.setIfInBounds_toArray, List.set_cons_zero, List.set_cons_succ, List.getElem_toArray, List.getElem_cons_succ, List.getElem_cons_zero]
      refine wpAnyH_take (i := 16) (v := .bool true) rfl (by kernel_rfl) (by kernel_rfl) (by kernel_rfl) (fun _ _ _ h => h) (Or.inl ⟨by rfl, ?_⟩) (by assumption) ?_
      · intro w' hSw
        first | go_simp | rfl
      try simp only [Act.put, List.setIfInBounds_toArray, List.set_cons_zero, List.set_cons_succ, List.getElem_toArray, List.getElem_cons_succ, List.getElem_cons_zero]
      refine wpAnyH_take (i := 17) (v := undef) rfl (by kernel_rfl) (by kernel_rfl) (by kernel_rfl) (fun _ _ _ h => h) (Or.inr ⟨by rfl, rfl⟩) (by assumption) ?_
      try simp only [Act.put, List.setIfInBounds_toArray, List.set_cons_zero, List.set_cons_succ, List.getElem_toArray, List.getElem_cons_succ, List.getElem_cons_zero]
      refine wpAnyH_take (i := 18) (v := undef) rfl (by kernel_rfl) (by kernel_rfl) (by kernel_rfl) (fun _ _ _ h => h) (Or.inr ⟨by rfl, rfl⟩) (by assumption) ?_
      try simp only [Act.put, List.setIfInBounds_toArray, List.set_cons_zero, List.set_cons_succ, List.getElem_toArray, List.getElem_cons_succ, List.getElem_cons_zero]
      refine wpAnyH_take (i := 19) (v := undef) rfl (by kernel_rfl) (by kernel_rfl) (by kernel_rfl) (fun _ _ _ h => h) (Or.inr ⟨by rfl, rfl⟩) (by assumption) ?_
      try simp only [Act.put, List.setIfInBounds_toArray, List.set_cons_zero, List.set_cons_succ, List.getElem_toArray, List.getElem_cons_succ, List.getElem_cons_zero]
      refine wpAnyH_take (i := 20) (v := .bool true) rfl (by kernel_rfl) (by kernel_rfl) (by kernel_rfl) (fun _ _ _ h => h) (Or.inl ⟨by rfl, ?_⟩) (by assumption) ?_
      · intro w' hSw
        first | go_simp | rfl
      try simp only [Act.put, List.setIfInBounds_toArray, List.set_cons_zero, List.set_cons_succ, List.getElem_toArray, List.getElem_cons_succ, List.getElem_cons_zero]
      refine wpAnyH_done (by kernel_rfl) ?_ _
      go_wp2_with (fail)
      go_meet
      exact ⟨by rw [HG.out], hHeld⟩

    have hsi : ¬ (400 : Int) < (wt ta : Int) + (wt tb : Int) := by omega
    by_cases hg : 100 < arg.size
    · have hG : bigJ ta tb arg = true := by rw [hbig, decide_eq_true hg]; simp
      have hgi : (100 : Int) < (arg.size : Int) := by omega
      have HG := Lib.hid hG
      clear hG hbig hs hg wa wb
      go_wp2_with (fail)
      refine wp_region_held_drew (S := fun V => (V.heap[w.heap.size]? = some (.cells #[.int .u8 ka, .int .u8 opa, .int .i64 pla, .int .i64 nna, .string nma, .string ara, .string exa, .slice pa la ca] 29 (0, 0)) ∧ V.heap[w.heap.size + 1]? = some (.cells #[.int .u8 kb, .int .u8 opb, .int .i64 plb, .int .i64 nnb, .string nmb, .string arb, .string exb, .slice pb lb cb] 29 (0, 0)) ∧ Below w.heap.size w V)) (by kernel_rfl) HS0.out (fun hHeld => ?_)
      refine wpAnyH_take (i := 0) (v := .agg #[.int .u8 ka, .int .u8 opa, .int .i64 pla, .int .i64 nna, .string nma, .string ara, .string exa, .slice pa la ca]) rfl (by kernel_rfl) (by kernel_rfl) (by kernel_rfl) (fun _ _ _ h => h) (Or.inl ⟨by rfl, ?_⟩) (by assumption) ?_
      · intro w' hSw
        obtain ⟨⟨b0, b1, b2, b3, b4, b5, b6, b7⟩, f0, f1, f2, f3, f4, f5, f6, f7⟩ := Parse.cells8' hSw.1
        first | go_simp | rfl
      try simp only [Act.put, List.setIfInBounds_toArray, List.set_cons_zero, List.set_cons_succ, List.getElem_toArray, List.getElem_cons_succ, List.getElem_cons_zero]
      refine wpAnyH_ready (rs := [1]) (by kernel_rfl) (by simp) ?_
      refine AllReadyH.cons rfl (fun K hK => ?_) AllReadyH.nil
      go_simp
      refine (HGA0.out _ (by assumption)).mono ?_
      rintro e w' ⟨rfl, hS'⟩
      clear hHeld
      refine hK.out _ _ hS' (fun hHeld => ?_)
      try simp only [Act.put, List.setIfInBounds_toArray, List.set_cons_zero, List.set_cons_succ, List.getElem_toArray, List.getElem_cons_succ, List.getElem_cons_zero]
      clear hK hS' K
      refine wpAnyH_take (i := 2) (v := .bool false) rfl (by kernel_rfl) (by kernel_rfl) (by kernel_rfl) (fun _ _ _ h => h) (Or.inl ⟨by rfl, ?_⟩) (by assumption) ?_
      · intro w' hSw
        first | go_simp | rfl
      try simp only [Act.put, List.setIfInBounds_toArray, List.set_cons_zero, List.set_cons_succ, List.getElem_toArray, List.getElem_cons_succ, List.getElem_cons_zero]
      refine wpAnyH_take (i := 3) (v := .agg #[.int .u8 kb, .int .u8 opb, .int .i64 plb, .int .i64 nnb, .string nmb, .string arb, .string exb, .slice pb lb cb]) rfl (by kernel_rfl) (by kernel_rfl) (by kernel_rfl) (fun _ _ _ h => h) (Or.inl ⟨by rfl, ?_⟩) (by assumption) ?_
      · intro w' hSw
        obtain ⟨⟨b0, b1, b2, b3, b4, b5, b6, b7⟩, f0, f1, f2, f3, f4, f5, f6, f7⟩ := Parse.cells8' hSw.2.1
        first | go_simp | rfl
      try simp only [Act.put, List.setIfInBounds_toArray, List.set_cons_zero, List.set_cons_succ, List.getElem_toArray, List.getElem_cons_succ, List.getElem_cons_zero]
      refine wpAnyH_ready (rs := [4]) (by kernel_rfl) (by simp) ?_
      refine AllReadyH.cons rfl (fun K hK => ?_) AllReadyH.nil
      go_simp
      refine (HGB0.out _ (by assumption)).mono ?_
      rintro e w' ⟨rfl, hS'⟩
      clear hHeld
      refine hK.out _ _ hS' (fun hHeld => ?_)
      try simp only [Act.put, List.setIfInBounds_toArray, List.set_cons_zero, List.set_cons_succ, List.getElem_toArray, List.getElem_cons_succ, List.getElem_cons_zero]
      clear hK hS' K
      refine wpAnyH_take (i := 5) (v := .bool false) rfl (by kernel_rfl) (by kernel_rfl) (by kernel_rfl) (fun _ _ _ h => h) (Or.inl ⟨by rfl, ?_⟩) (by assumption) ?_
      · intro w' hSw
        first | go_simp | rfl
      try simp only [Act.put, List.setIfInBounds_toArray, List.set_cons_zero, List.set_cons_succ, List.getElem_toArray, List.getElem_cons_succ, List.getElem_cons_zero]
      refine wpAnyH_take (i := 6) (v := .bool false) rfl (by kernel_rfl) (by kernel_rfl) (by kernel_rfl) (fun _ _ _ h => h) (Or.inl ⟨by rfl, ?_⟩) (by assumption) ?_
      · intro w' hSw
        first | go_simp | rfl
      try simp only [Act.put, List.setIfInBounds_toArray, List.set_cons_zero, List.set_cons_succ, List.getElem_toArray, List.getElem_cons_succ, List.getElem_cons_zero]
      refine wpAnyH_take (i := 7) (v := .agg #[.int .u8 ka, .int .u8 opa, .int .i64 pla, .int .i64 nna, .string nma, .string ara, .string exa, .slice pa la ca]) rfl (by kernel_rfl) (by kernel_rfl) (by kernel_rfl) (fun _ _ _ h => h) (Or.inl ⟨by rfl, ?_⟩) (by assumption) ?_
      · intro w' hSw
        obtain ⟨⟨b0, b1, b2, b3, b4, b5, b6, b7⟩, f0, f1, f2, f3, f4, f5, f6, f7⟩ := Parse.cells8' hSw.1
        first | go_simp | rfl
      try simp only [Act.put, List.setIfInBounds_toArray, List.set_cons_zero, List.set_cons_succ, List.getElem_toArray, List.getElem_cons_succ, List.getElem_cons_zero]
      refine wpAnyH_take (i := 10) (v := .agg #[.int .u8 kb, .int .u8 opb, .int .i64 plb, .int .i64 nnb, .string nmb, .string arb, .string exb, .slice pb lb cb]) rfl (by kernel_rfl) (by kernel_rfl) (by kernel_rfl) (fun _ _ _ h => h) (Or.inl ⟨by rfl, ?_⟩) (by assumption) ?_
      · intro w' hSw
        obtain ⟨⟨b0, b1, b2, b3, b4, b5, b6, b7⟩, f0, f1, f2, f3, f4, f5, f6, f7⟩ := Parse.cells8' hSw.2.1
        first | go_simp | rfl
      try simp only [Act.put, List.setIfInBounds_toArray, List.set_cons_zero, List.set_cons_succ, List.getElem_toArray, List.getElem_cons_succ, List.getElem_cons_zero]
      refine wpAnyH_ready (rs := [8]) (by kernel_rfl) (by simp) ?_
      refine AllReadyH.cons rfl (fun K hK => ?_) AllReadyH.nil
      go_simp
      refine (HAA.out _ (by assumption)).mono ?_
      rintro e w' ⟨g8, c8, rfl, hc8, hS'⟩
      clear hHeld
      refine hK.out _ _ hS' (fun hHeld => ?_)
      try simp only [Act.put, List.setIfInBounds_toArray, List.set_cons_zero, List.set_cons_succ, List.getElem_toArray, List.getElem_cons_succ, List.getElem_cons_zero]
      clear hK hS' K
      refine wpAnyH_take (i := 9) (v := .int .i64 (wt ta)) rfl (by kernel_rfl) (by kernel_rfl) (by kernel_rfl) (fun _ _ _ h => h) (Or.inl ⟨by rfl, ?_⟩) (by assumption) ?_
      · intro w' hSw
        first | go_simp | rfl
      try simp only [Act.put, List.setIfInBounds_toArray, List.set_cons_zero, List.set_cons_succ, List.getElem_toArray, List.getElem_cons_succ, List.getElem_cons_zero]
      refine wpAnyH_ready (rs := [11]) (by kernel_rfl) (by simp) ?_
      refine AllReadyH.cons rfl (fun K hK => ?_) AllReadyH.nil
      go_simp
      refine (HAB.out _ (by assumption)).mono ?_
      rintro e w' ⟨g11, c11, rfl, hc11, hS'⟩
      clear hHeld
      refine hK.out _ _ hS' (fun hHeld => ?_)
      try simp only [Act.put, List.setIfInBounds_toArray, List.set_cons_zero, List.set_cons_succ, List.getElem_toArray, List.getElem_cons_succ, List.getElem_cons_zero]
      clear hK hS' K
      refine wpAnyH_take (i := 12) (v := .int .i64 (wt tb)) rfl (by kernel_rfl) (by kernel_rfl) (by kernel_rfl) (fun _ _ _ h => h) (Or.inl ⟨by rfl, ?_⟩) (by assumption) ?_
      · intro w' hSw
        first | go_simp | rfl
      try simp only [Act.put, List.setIfInBounds_toArray, List.set_cons_zero, List.set_cons_succ, List.getElem_toArray, List.getElem_cons_succ, List.getElem_cons_zero]
      refine wpAnyH_take (i := 13) (v := .int .i64 ((wt ta : Int) + (wt tb : Int))) rfl (by kernel_rfl) (by kernel_rfl) (by kernel_rfl) (fun _ _ _ h => h) (Or.inl ⟨by rfl, ?_⟩) (by assumption) ?_
      · intro w' hSw
        first | go_simp | rfl
      try simp only [Act.put, List.setIfInBounds_toArray, List.set_cons_zero, List.set_cons_succ, List.getElem_toArray, List.getElem_cons_succ, List.getElem_cons_zero]
      refine wpAnyH_take (i := 14) (v := .bool false) rfl (by kernel_rfl) (by kernel_rfl) (by kernel_rfl) (fun _ _ _ h => h) (Or.inl ⟨by rfl, ?_⟩) (by assumption) ?_
      · intro w' hSw
        first | go_simp | rfl
      try simp only [Act.put, List.setIfInBounds_toArray, List.set_cons_zero, List.set_cons_succ, List.getElem_toArray, List.getElem_cons_succ, List.getElem_cons_zero]
      refine wpAnyH_take (i := 15) (v := .bool false) rfl (by kernel_rfl) (by kernel_rfl) (by kernel_rfl) (fun _ _ _ h => h) (Or.inl ⟨by rfl, ?_⟩) (by assumption) ?_
      · intro w' hSw
        first | go_simp | rfl
      try simp only [Act.put, List.setIfInBounds_toArray, List.set_cons_zero, List.set_cons_succ, List.getElem_toArray, List.getElem_cons_succ, List.getElem_cons_zero]
      refine wpAnyH_take (i := 16) (v := .bool false) rfl (by kernel_rfl) (by kernel_rfl) (by kernel_rfl) (fun _ _ _ h => h) (Or.inl ⟨by rfl, ?_⟩) (by assumption) ?_
      · intro w' hSw
        first | go_simp | rfl
      try simp only [Act.put, List.setIfInBounds_toArray, List.set_cons_zero, List.set_cons_succ, List.getElem_toArray, List.getElem_cons_succ, List.getElem_cons_zero]
      refine wpAnyH_take (i := 17) (v := .string arg) rfl (by kernel_rfl) (by kernel_rfl) (by kernel_rfl) (fun _ _ _ h => h) (Or.inl ⟨by rfl, ?_⟩) (by assumption) ?_
      · intro w' hSw
        first | go_simp | rfl
      try simp only [Act.put, List.setIfInBounds_toArray, List.set_cons_zero, List.set_cons_succ, List.getElem_toArray, List.getElem_cons_succ, List.getElem_cons_zero]
      refine wpAnyH_take (i := 18) (v := .int .i64 arg.size) rfl (by kernel_rfl) (by kernel_rfl) (by kernel_rfl) (fun _ _ _ h => h) (Or.inl ⟨by rfl, ?_⟩) (by assumption) ?_
      · intro w' hSw
        first | go_simp | rfl
      try simp only [Act.put, List.setIfInBounds_toArray, List.set_cons_zero, List.set_cons_succ, List.getElem_toArray, List.getElem_cons_succ, List.getElem_cons_zero]
      refine wpAnyH_take (i := 19) (v := .bool true) rfl (by kernel_rfl) (by kernel_rfl) (by kernel_rfl) (fun _ _ _ h => h) (Or.inl ⟨by rfl, ?_⟩) (by assumption) ?_
      · intro w' hSw
        first | go_simp | rfl
      try simp only [Act.put, List.setIfInBounds_toArray, List.set_cons_zero, List.set_cons_succ, List.getElem_toArray, List.getElem_cons_succ, List.getElem_cons_zero]
      refine wpAnyH_take (i := 20) (v := .bool true) rfl (by kernel_rfl) (by kernel_rfl) (by kernel_rfl) (fun _ _ _ h => h) (Or.inl ⟨by rfl, ?_⟩) (by assumption) ?_
      · intro w' hSw
        first | go_simp | rfl
      try simp only [Act.put, List.setIfInBounds_toArray, List.set_cons_zero, List.set_cons_succ, List.getElem_toArray, List.getElem_cons_succ, List.getElem_cons_zero]
      refine wpAnyH_done (by kernel_rfl) ?_ _
      go_wp2_with (fail)
      go_meet
      exact ⟨by rw [HG.out], hHeld⟩

    · have hG : bigJ ta tb arg = false := by rw [hbig, decide_eq_false hs, decide_eq_false hg]; rfl
      have hgi : ¬ (100 : Int) < (arg.size : Int) := by omega
      have HG := Lib.hid hG
      clear hG hbig hs hg wa wb
      go_wp2_with (fail)
      refine wp_region_held_drew (S := fun V => (V.heap[w.heap.size]? = some (.cells #[.int .u8 ka, .int .u8 opa, .int .i64 pla, .int .i64 nna, .string nma, .string ara, .string exa, .slice pa la ca] 29 (0, 0)) ∧ V.heap[w.heap.size + 1]? = some (.cells #[.int .u8 kb, .int .u8 opb, .int .i64 plb, .int .i64 nnb, .string nmb, .string arb, .string exb, .slice pb lb cb] 29 (0, 0)) ∧ Below w.heap.size w V)) (by kernel_rfl) HS0.out (fun hHeld => ?_)
      refine wpAnyH_take (i := 0) (v := .agg #[.int .u8 ka, .int .u8 opa, .int .i64 pla, .int .i64 nna, .string nma, .string ara, .string exa, .slice pa la ca]) rfl (by kernel_rfl) (by kernel_rfl) (by kernel_rfl) (fun _ _ _ h => h) (Or.inl ⟨by rfl, ?_⟩) (by assumption) ?_
      · intro w' hSw
        obtain ⟨⟨b0, b1, b2, b3, b4, b5, b6, b7⟩, f0, f1, f2, f3, f4, f5, f6, f7⟩ := Parse.cells8' hSw.1
        first | go_simp | rfl
      try simp only [Act.put, List.setIfInBounds_toArray, List.set_cons_zero, List.set_cons_succ, List.getElem_toArray, List.getElem_cons_succ, List.getElem_cons_zero]
      refine wpAnyH_ready (rs := [1]) (by kernel_rfl) (by simp) ?_
      refine AllReadyH.cons rfl (fun K hK => ?_) AllReadyH.nil
      go_simp
      refine (HGA0.out _ (by assumption)).mono ?_
      rintro e w' ⟨rfl, hS'⟩
      clear hHeld
      refine hK.out _ _ hS' (fun hHeld => ?_)
      try simp only [Act.put, List.setIfInBounds_toArray, List.set_cons_zero, List.set_cons_succ, List.getElem_toArray, List.getElem_cons_succ, List.getElem_cons_zero]
      clear hK hS' K
      refine wpAnyH_take (i := 2) (v := .bool false) rfl (by kernel_rfl) (by kernel_rfl) (by kernel_rfl) (fun _ _ _ h => h) (Or.inl ⟨by rfl, ?_⟩) (by assumption) ?_
      · intro w' hSw
        first | go_simp | rfl
      try simp only [Act.put, List.setIfInBounds_toArray, List.set_cons_zero, List.set_cons_succ, List.getElem_toArray, List.getElem_cons_succ, List.getElem_cons_zero]
      refine wpAnyH_take (i := 3) (v := .agg #[.int .u8 kb, .int .u8 opb, .int .i64 plb, .int .i64 nnb, .string nmb, .string arb, .string exb, .slice pb lb cb]) rfl (by kernel_rfl) (by kernel_rfl) (by kernel_rfl) (fun _ _ _ h => h) (Or.inl ⟨by rfl, ?_⟩) (by assumption) ?_
      · intro w' hSw
        obtain ⟨⟨b0, b1, b2, b3, b4, b5, b6, b7⟩, f0, f1, f2, f3, f4, f5, f6, f7⟩ := Parse.cells8' hSw.2.1
        first | go_simp | rfl
      try simp only [Act.put, List.setIfInBounds_toArray, List.set_cons_zero, List.set_cons_succ, List.getElem_toArray, List.getElem_cons_succ, List.getElem_cons_zero]
      refine wpAnyH_ready (rs := [4]) (by kernel_rfl) (by simp) ?_
      refine AllReadyH.cons rfl (fun K hK => ?_) AllReadyH.nil
      go_simp
      refine (HGB0.out _ (by assumption)).mono ?_
      rintro e w' ⟨rfl, hS'⟩
      clear hHeld
      refine hK.out _ _ hS' (fun hHeld => ?_)
      try simp only [Act.put, List.setIfInBounds_toArray, List.set_cons_zero, List.set_cons_succ, List.getElem_toArray, List.getElem_cons_succ, List.getElem_cons_zero]
      clear hK hS' K
      refine wpAnyH_take (i := 5) (v := .bool false) rfl (by kernel_rfl) (by kernel_rfl) (by kernel_rfl) (fun _ _ _ h => h) (Or.inl ⟨by rfl, ?_⟩) (by assumption) ?_
      · intro w' hSw
        first | go_simp | rfl
      try simp only [Act.put, List.setIfInBounds_toArray, List.set_cons_zero, List.set_cons_succ, List.getElem_toArray, List.getElem_cons_succ, List.getElem_cons_zero]
      refine wpAnyH_take (i := 6) (v := .bool false) rfl (by kernel_rfl) (by kernel_rfl) (by kernel_rfl) (fun _ _ _ h => h) (Or.inl ⟨by rfl, ?_⟩) (by assumption) ?_
      · intro w' hSw
        first | go_simp | rfl
      try simp only [Act.put, List.setIfInBounds_toArray, List.set_cons_zero, List.set_cons_succ, List.getElem_toArray, List.getElem_cons_succ, List.getElem_cons_zero]
      refine wpAnyH_take (i := 7) (v := .agg #[.int .u8 ka, .int .u8 opa, .int .i64 pla, .int .i64 nna, .string nma, .string ara, .string exa, .slice pa la ca]) rfl (by kernel_rfl) (by kernel_rfl) (by kernel_rfl) (fun _ _ _ h => h) (Or.inl ⟨by rfl, ?_⟩) (by assumption) ?_
      · intro w' hSw
        obtain ⟨⟨b0, b1, b2, b3, b4, b5, b6, b7⟩, f0, f1, f2, f3, f4, f5, f6, f7⟩ := Parse.cells8' hSw.1
        first | go_simp | rfl
      try simp only [Act.put, List.setIfInBounds_toArray, List.set_cons_zero, List.set_cons_succ, List.getElem_toArray, List.getElem_cons_succ, List.getElem_cons_zero]
      refine wpAnyH_take (i := 10) (v := .agg #[.int .u8 kb, .int .u8 opb, .int .i64 plb, .int .i64 nnb, .string nmb, .string arb, .string exb, .slice pb lb cb]) rfl (by kernel_rfl) (by kernel_rfl) (by kernel_rfl) (fun _ _ _ h => h) (Or.inl ⟨by rfl, ?_⟩) (by assumption) ?_
      · intro w' hSw
        obtain ⟨⟨b0, b1, b2, b3, b4, b5, b6, b7⟩, f0, f1, f2, f3, f4, f5, f6, f7⟩ := Parse.cells8' hSw.2.1
        first | go_simp | rfl
      try simp only [Act.put, List.setIfInBounds_toArray, List.set_cons_zero, List.set_cons_succ, List.getElem_toArray, List.getElem_cons_succ, List.getElem_cons_zero]
      refine wpAnyH_ready (rs := [8]) (by kernel_rfl) (by simp) ?_
      refine AllReadyH.cons rfl (fun K hK => ?_) AllReadyH.nil
      go_simp
      refine (HAA.out _ (by assumption)).mono ?_
      rintro e w' ⟨g8, c8, rfl, hc8, hS'⟩
      clear hHeld
      refine hK.out _ _ hS' (fun hHeld => ?_)
      try simp only [Act.put, List.setIfInBounds_toArray, List.set_cons_zero, List.set_cons_succ, List.getElem_toArray, List.getElem_cons_succ, List.getElem_cons_zero]
      clear hK hS' K
      refine wpAnyH_take (i := 9) (v := .int .i64 (wt ta)) rfl (by kernel_rfl) (by kernel_rfl) (by kernel_rfl) (fun _ _ _ h => h) (Or.inl ⟨by rfl, ?_⟩) (by assumption) ?_
      · intro w' hSw
        first | go_simp | rfl
      try simp only [Act.put, List.setIfInBounds_toArray, List.set_cons_zero, List.set_cons_succ, List.getElem_toArray, List.getElem_cons_succ, List.getElem_cons_zero]
      refine wpAnyH_ready (rs := [11]) (by kernel_rfl) (by simp) ?_
      refine AllReadyH.cons rfl (fun K hK => ?_) AllReadyH.nil
      go_simp
      refine (HAB.out _ (by assumption)).mono ?_
      rintro e w' ⟨g11, c11, rfl, hc11, hS'⟩
      clear hHeld
      refine hK.out _ _ hS' (fun hHeld => ?_)
      try simp only [Act.put, List.setIfInBounds_toArray, List.set_cons_zero, List.set_cons_succ, List.getElem_toArray, List.getElem_cons_succ, List.getElem_cons_zero]
      clear hK hS' K
      refine wpAnyH_take (i := 12) (v := .int .i64 (wt tb)) rfl (by kernel_rfl) (by kernel_rfl) (by kernel_rfl) (fun _ _ _ h => h) (Or.inl ⟨by rfl, ?_⟩) (by assumption) ?_
      · intro w' hSw
        first | go_simp | rfl
      try simp only [Act.put, List.setIfInBounds_toArray, List.set_cons_zero, List.set_cons_succ, List.getElem_toArray, List.getElem_cons_succ, List.getElem_cons_zero]
      refine wpAnyH_take (i := 13) (v := .int .i64 ((wt ta : Int) + (wt tb : Int))) rfl (by kernel_rfl) (by kernel_rfl) (by kernel_rfl) (fun _ _ _ h => h) (Or.inl ⟨by rfl, ?_⟩) (by assumption) ?_
      · intro w' hSw
        first | go_simp | rfl
      try simp only [Act.put, List.setIfInBounds_toArray, List.set_cons_zero, List.set_cons_succ, List.getElem_toArray, List.getElem_cons_succ, List.getElem_cons_zero]
      refine wpAnyH_take (i := 14) (v := .bool false) rfl (by kernel_rfl) (by kernel_rfl) (by kernel_rfl) (fun _ _ _ h => h) (Or.inl ⟨by rfl, ?_⟩) (by assumption) ?_
      · intro w' hSw
        first | go_simp | rfl
      try simp only [Act.put, List.setIfInBounds_toArray, List.set_cons_zero, List.set_cons_succ, List.getElem_toArray, List.getElem_cons_succ, List.getElem_cons_zero]
      refine wpAnyH_take (i := 15) (v := .bool false) rfl (by kernel_rfl) (by kernel_rfl) (by kernel_rfl) (fun _ _ _ h => h) (Or.inl ⟨by rfl, ?_⟩) (by assumption) ?_
      · intro w' hSw
        first | go_simp | rfl
      try simp only [Act.put, List.setIfInBounds_toArray, List.set_cons_zero, List.set_cons_succ, List.getElem_toArray, List.getElem_cons_succ, List.getElem_cons_zero]
      refine wpAnyH_take (i := 16) (v := .bool false) rfl (by kernel_rfl) (by kernel_rfl) (by kernel_rfl) (fun _ _ _ h => h) (Or.inl ⟨by rfl, ?_⟩) (by assumption) ?_
      · intro w' hSw
        first | go_simp | rfl
      try simp only [Act.put, List.setIfInBounds_toArray, List.set_cons_zero, List.set_cons_succ, List.getElem_toArray, List.getElem_cons_succ, List.getElem_cons_zero]
      refine wpAnyH_take (i := 17) (v := .string arg) rfl (by kernel_rfl) (by kernel_rfl) (by kernel_rfl) (fun _ _ _ h => h) (Or.inl ⟨by rfl, ?_⟩) (by assumption) ?_
      · intro w' hSw
        first | go_simp | rfl
      try simp only [Act.put, List.setIfInBounds_toArray, List.set_cons_zero, List.set_cons_succ, List.getElem_toArray, List.getElem_cons_succ, List.getElem_cons_zero]
      refine wpAnyH_take (i := 18) (v := .int .i64 arg.size) rfl (by kernel_rfl) (by kernel_rfl) (by kernel_rfl) (fun _ _ _ h => h) (Or.inl ⟨by rfl, ?_⟩) (by assumption) ?_
      · intro w' hSw
        first | go_simp | rfl
      try simp only [Act.put, List.setIfInBounds_toArray, List.set_cons_zero, List.set_cons_succ, List.getElem_toArray, List.getElem_cons_succ, List.getElem_cons_zero]
      refine wpAnyH_take (i := 19) (v := .bool false) rfl (by kernel_rfl) (by kernel_rfl) (by kernel_rfl) (fun _ _ _ h => h) (Or.inl ⟨by rfl, ?_⟩) (by assumption) ?_
      · intro w' hSw
        first | go_simp | rfl
      try simp only [Act.put, List.setIfInBounds_toArray, List.set_cons_zero, List.set_cons_succ, List.getElem_toArray, List.getElem_cons_succ, List.getElem_cons_zero]
      refine wpAnyH_take (i := 20) (v := .bool false) rfl (by kernel_rfl) (by kernel_rfl) (by kernel_rfl) (fun _ _ _ h => h) (Or.inl ⟨by rfl, ?_⟩) (by assumption) ?_
      · intro w' hSw
        first | go_simp | rfl
      try simp only [Act.put, List.setIfInBounds_toArray, List.set_cons_zero, List.set_cons_succ, List.getElem_toArray, List.getElem_cons_succ, List.getElem_cons_zero]
      refine wpAnyH_done (by kernel_rfl) ?_ _
      go_wp2_with (fail)
      go_meet
      exact ⟨by rw [HG.out], hHeld⟩

  case rest =>
    obtain ⟨rfl, hA, hB, hW⟩ := hcut
    cases hbig : bigJ ta tb arg
    rotate_left
    · have HW := Lib.hid hW
      clear hA hB hW hbig
      go_wp2_with (fail)
      refine (HAW.out _ HW.out).mono ?_
      rintro e w2 ⟨rfl, hb2⟩
      have HB2 := Lib.hid (Term.below_then HW.out hb2 HW.out.size)
      clear hb2
      go_wp2_with (fail)
      go_ret
      exact ⟨rfl, HB2.out⟩
    obtain ⟨hsum, harg⟩ := bigJ_no hbig
    have HSUM := Lib.hid hsum
    have HARG := Lib.hid harg
    have HA := Lib.hid hA; have HB := Lib.hid hB; have HW := Lib.hid hW
    obtain ⟨⟨b0, b1, b2, b3, b4, b5, b6, b7⟩, f0, f1, f2, f3, f4, f5, f6, f7⟩ := Parse.cells8' HA.out
    have bl := lt_of_block HA.out
    clear hbig hsum harg hA hB hW
    go_wp2_with (fail)
    refine (HSA.out _ HW.out).mono ?_
    rintro e w1 ⟨rfl, hb1⟩
    have HA1 := Lib.hid ((hb1.block _ (lt_of_block HA.out)).trans HA.out); have HB1 := Lib.hid ((hb1.block _ (lt_of_block HB.out)).trans HB.out); have HW1 := Lib.hid (Term.below_then HW.out hb1 HW.out.size)
    clear hb1 b0 b1 b2 b3 b4 b5 b6 b7 f0 f1 f2 f3 f4 f5 f6 f7 bl
    obtain ⟨⟨b0, b1, b2, b3, b4, b5, b6, b7⟩, f0, f1, f2, f3, f4, f5, f6, f7⟩ := Parse.cells8' HB1.out
    have bl := lt_of_block HB1.out
    go_wp2_with (fail)
    refine (HSB.out _ HW1.out).mono ?_
    rintro e w2 ⟨rfl, hb2⟩
    have HA2 := Lib.hid ((hb2.block _ (lt_of_block HA1.out)).trans HA1.out); have HB2 := Lib.hid ((hb2.block _ (lt_of_block HB1.out)).trans HB1.out); have HW2 := Lib.hid (Term.below_then HW1.out hb2 HW1.out.size)
    clear hb2 b0 b1 b2 b3 b4 b5 b6 b7 f0 f1 f2 f3 f4 f5 f6 f7 bl
    obtain ⟨⟨b0, b1, b2, b3, b4, b5, b6, b7⟩, f0, f1, f2, f3, f4, f5, f6, f7⟩ := Parse.cells8' HB2.out
    have bl := lt_of_block HB2.out
    obtain ⟨⟨a0, a1, a2, a3, a4, a5, a6, a7⟩, g0, g1, g2, g3, g4, g5, g6, g7⟩ := Parse.cells8' HA2.out
    have al := lt_of_block HA2.out
    have hbo : ∀ O : Obj, Below w.heap.size w (w2.alloc O) := fun O => HW2.out.alloc HW2.out.size O
    have hsp := showTerm_walk _ (some ⟨w2.heap.size, 0, none⟩) 2 2 (pairT ta tb) _ (pair_is HTA.out HTB.out (hbo _) (heap_alloc_new w2 (.cells (tcells ⟨ka, opa, pla, nna, nma, ara, exa⟩ pa la ca ++ tcells ⟨kb, opb, plb, nnb, nmb, arb, exb⟩ pb lb cb).toArray 29 (0, 0)))) (HL.out.below (hbo _))
    have HSP := Lib.hid hsp; have HBO := Lib.hid hbo
    clear hsp hbo
    go_wp2_with (fail)
    refine HSP.out.mono ?_
    rintro e w3 ⟨rfl, hb3⟩
    have hb3' := ((Below.refl w2.heap.size w2).alloc (Nat.le_refl _) _).trans (hb3.mono (by simp : w2.heap.size ≤ _))
    have HA3 := Lib.hid ((hb3'.block _ (lt_of_block HA2.out)).trans HA2.out); have HB3 := Lib.hid ((hb3'.block _ (lt_of_block HB2.out)).trans HB2.out); have HW3 := Lib.hid (Term.below_then HW2.out hb3' HW2.out.size)
    clear hb3 hb3' b0 b1 b2 b3 b4 b5 b6 b7 f0 f1 f2 f3 f4 f5 f6 f7 bl a0 a1 a2 a3 a4 a5 a6 a7 g0 g1 g2 g3 g4 g5 g6 g7 al
    obtain ⟨⟨a0, a1, a2, a3, a4, a5, a6, a7⟩, g0, g1, g2, g3, g4, g5, g6, g7⟩ := Parse.cells8' HA3.out
    have al := lt_of_block HA3.out
    have hmp := may_pair HSUM.out
    have hya := @show_yes [] ta; have hyb := @show_yes [] tb; have hyp := @show_yes [] (pairT ta tb)
    have hna := @show_no [] ta; have hnb := @show_no [] tb; have hnp := @show_no [] (pairT ta tb)
    rw [mayP_none] at hya hyb hyp hna hnb hnp
    have hxa : mayT ta = true → showS [] ta = jb (wordsT ta) := fun h => (hya h).1
    have HXA := Lib.hid hxa
    have hfn := fun W N (hb : Below w.heap.size w W) hN => showTerm_walk _ (some ⟨N, 0, none⟩) 1 1 (fnT arg ta) W (fn_is (W := W) (N := N) (ty := 29) HTA.out (by unfold maxLen; exact hal) hb hN) (HL.out.below hb)
    have hmf := fun W N (hb : Below w.heap.size w W) hN => Term.refMay_walk (fnT arg ta) _ (some ⟨N, 0, none⟩) 1 1 W (fn_is (W := W) (N := N) (ty := 29) HTA.out (by unfold maxLen; exact hal) hb hN) (by have := HSUM.out; unfold fnT; rw [Term.wt_ks]; show wts [ta] + 1 ≤ 4000; rw [Term.wts_cons, Term.wts_nil]; omega)
    have HFN := Lib.hid hfn; have HMF := Lib.hid hmf
    clear hfn hmf hxa
    have hpair := fun (ha : mayT ta = true) (hb : mayT tb = true) => text_pair (may_ok ha).1 (may_ok hb).1
    have hps := fun (h : mayT (pairT ta tb) = true) => text_small (may_ok h).1 (may_ok h).2
    have HPS := Lib.hid hps
    have HPAIR := Lib.hid hpair
    clear hpair hps
    generalize showS [] ta = Sa at *
    generalize showS [] tb = Sb at *
    generalize showS [] (pairT ta tb) = Sp at *
    generalize showE [] ta = Ea at *
    generalize showE [] tb = Eb at *
    generalize showE [] (pairT ta tb) = Ep at *
    cases hma : mayT ta
    · obtain ⟨rfl, rfl⟩ := hna hma
      rw [hma, Bool.false_and] at hmp
      obtain ⟨rfl, rfl⟩ := hnp hmp
      have hEb : Eb = 0 ∨ Eb = 1 := by
        cases hmb : mayT tb
        · exact .inr (hnb hmb).2
        · exact .inl (hyb hmb).2
      have HMA := Lib.hid hma
      clear hya hyb hyp hna hnb hnp hmp hma HPS HPAIR
      rcases hEb with rfl | rfl
      all_goals
        go_wp2_with (fail)
        have hbz : Below w.heap.size w ((w3.alloc (.cells #[.int .u8 ka, .int .u8 opa, .int .i64 pla, .int .i64 nna, .string nma, .string ara, .string exa, .slice pa la ca] 29)).alloc (.cells #[.int .u8 11, .int .u8 0, .int .i64 0, .int .i64 0, .string ⟨#[]⟩, .string arg, .string ⟨#[]⟩, .slice (some ⟨w3.heap.size, 0, none⟩) 1 1] 29)) := (HW3.out.alloc HW3.out.size _).alloc (by have := HW3.out.size; simp; omega) _
        have hKz : ((w3.alloc (.cells #[.int .u8 ka, .int .u8 opa, .int .i64 pla, .int .i64 nna, .string nma, .string ara, .string exa, .slice pa la ca] 29)).alloc (.cells #[.int .u8 11, .int .u8 0, .int .i64 0, .int .i64 0, .string ⟨#[]⟩, .string arg, .string ⟨#[]⟩, .slice (some ⟨w3.heap.size, 0, none⟩) 1 1] 29)).heap[w3.heap.size]? = some (.cells #[.int .u8 ka, .int .u8 opa, .int .i64 pla, .int .i64 nna, .string nma, .string ara, .string exa, .slice pa la ca] 29 (0, 0)) := (Below.heap_alloc _ _ _ (by simp)).trans (heap_alloc_new w3 _)
        have hFz : ((w3.alloc (.cells #[.int .u8 ka, .int .u8 opa, .int .i64 pla, .int .i64 nna, .string nma, .string ara, .string exa, .slice pa la ca] 29)).alloc (.cells #[.int .u8 11, .int .u8 0, .int .i64 0, .int .i64 0, .string ⟨#[]⟩, .string arg, .string ⟨#[]⟩, .slice (some ⟨w3.heap.size, 0, none⟩) 1 1] 29)).heap[w3.heap.size + 1]? = some (.cells #[.int .u8 11, .int .u8 0, .int .i64 0, .int .i64 0, .string ⟨#[]⟩, .string arg, .string ⟨#[]⟩, .slice (some ⟨w3.heap.size, 0, none⟩) 1 1] 29 (0, 0)) := by
          have h1 := heap_alloc_new (w3.alloc (.cells #[.int .u8 ka, .int .u8 opa, .int .i64 pla, .int .i64 nna, .string nma, .string ara, .string exa, .slice pa la ca] 29)) (.cells #[.int .u8 11, .int .u8 0, .int .i64 0, .int .i64 0, .string ⟨#[]⟩, .string arg, .string ⟨#[]⟩, .slice (some ⟨w3.heap.size, 0, none⟩) 1 1] 29)
          rw [heap_alloc_size] at h1
          exact h1
        clear a0 a1 a2 a3 a4 a5 a6 a7 g0 g1 g2 g3 g4 g5 g6 g7 al
        refine (HFN.out _ w3.heap.size hbz hKz).mono ?_
        rintro e w4 ⟨rfl, hb4⟩
        have HK4 := Lib.hid ((hb4.block _ (lt_of_block hKz)).trans hKz); have HF4 := Lib.hid ((hb4.block _ (lt_of_block hFz)).trans hFz); have HW4 := Lib.hid (Term.below_then hbz hb4 hbz.size)
        clear hbz hKz hFz hb4
        obtain ⟨⟨a0, a1, a2, a3, a4, a5, a6, a7⟩, g0, g1, g2, g3, g4, g5, g6, g7⟩ := Parse.cells8' HF4.out
        have al := lt_of_block HF4.out
        have hyf := @show_yes [] (fnT arg ta); have hnf := @show_no [] (fnT arg ta)
        rw [mayP_none] at hyf hnf
        have HYF := Lib.hid hyf; have HNF := Lib.hid hnf
        clear hyf hnf
        generalize showS [] (fnT arg ta) = Sf at *
        generalize showE [] (fnT arg ta) = Ef at *
        go_wp2_with (fail)
        refine (HMF.out w4 w3.heap.size HW4.out HK4.out).mono ?_
        rintro e w5 ⟨rfl, hb5⟩
        have HW5 := Lib.hid (Term.below_then HW4.out hb5 HW4.out.size)
        clear hb5 a0 a1 a2 a3 a4 a5 a6 a7 g0 g1 g2 g3 g4 g5 g6 g7 al
        cases hmf : mayT (fnT arg ta)
        · obtain ⟨rfl, rfl⟩ := HNF.out hmf
          clear hmf
          go_wp2_with (fail)
          refine (HAW.out _ HW5.out).mono ?_
          rintro e w6 ⟨rfl, hb6⟩
          have HW6 := Lib.hid (Term.below_then HW5.out hb6 HW5.out.size)
          clear hb6
          go_wp2_with (fail)
          go_ret
          exact ⟨rfl, HW6.out⟩
        · have hma' := may_fn (by have := HSUM.out; omega) hmf
          rw [HMA.out] at hma'
          cases hma'
    cases hmb : mayT tb
    · obtain ⟨rfl, rfl⟩ := hnb hmb
      rw [hma, hmb, Bool.and_false] at hmp
      obtain ⟨rfl, rfl⟩ := hnp hmp
      obtain ⟨hzz, rfl⟩ := hya hma
      clear hzz
      have HMA := Lib.hid hma
      clear hya hyb hyp hna hnb hnp hmp hma hmb HPS HPAIR
      all_goals
        go_wp2_with (fail)
        have hbz : Below w.heap.size w ((w3.alloc (.cells #[.int .u8 ka, .int .u8 opa, .int .i64 pla, .int .i64 nna, .string nma, .string ara, .string exa, .slice pa la ca] 29)).alloc (.cells #[.int .u8 11, .int .u8 0, .int .i64 0, .int .i64 0, .string ⟨#[]⟩, .string arg, .string ⟨#[]⟩, .slice (some ⟨w3.heap.size, 0, none⟩) 1 1] 29)) := (HW3.out.alloc HW3.out.size _).alloc (by have := HW3.out.size; simp; omega) _
        have hKz : ((w3.alloc (.cells #[.int .u8 ka, .int .u8 opa, .int .i64 pla, .int .i64 nna, .string nma, .string ara, .string exa, .slice pa la ca] 29)).alloc (.cells #[.int .u8 11, .int .u8 0, .int .i64 0, .int .i64 0, .string ⟨#[]⟩, .string arg, .string ⟨#[]⟩, .slice (some ⟨w3.heap.size, 0, none⟩) 1 1] 29)).heap[w3.heap.size]? = some (.cells #[.int .u8 ka, .int .u8 opa, .int .i64 pla, .int .i64 nna, .string nma, .string ara, .string exa, .slice pa la ca] 29 (0, 0)) := (Below.heap_alloc _ _ _ (by simp)).trans (heap_alloc_new w3 _)
        have hFz : ((w3.alloc (.cells #[.int .u8 ka, .int .u8 opa, .int .i64 pla, .int .i64 nna, .string nma, .string ara, .string exa, .slice pa la ca] 29)).alloc (.cells #[.int .u8 11, .int .u8 0, .int .i64 0, .int .i64 0, .string ⟨#[]⟩, .string arg, .string ⟨#[]⟩, .slice (some ⟨w3.heap.size, 0, none⟩) 1 1] 29)).heap[w3.heap.size + 1]? = some (.cells #[.int .u8 11, .int .u8 0, .int .i64 0, .int .i64 0, .string ⟨#[]⟩, .string arg, .string ⟨#[]⟩, .slice (some ⟨w3.heap.size, 0, none⟩) 1 1] 29 (0, 0)) := by
          have h1 := heap_alloc_new (w3.alloc (.cells #[.int .u8 ka, .int .u8 opa, .int .i64 pla, .int .i64 nna, .string nma, .string ara, .string exa, .slice pa la ca] 29)) (.cells #[.int .u8 11, .int .u8 0, .int .i64 0, .int .i64 0, .string ⟨#[]⟩, .string arg, .string ⟨#[]⟩, .slice (some ⟨w3.heap.size, 0, none⟩) 1 1] 29)
          rw [heap_alloc_size] at h1
          exact h1
        clear a0 a1 a2 a3 a4 a5 a6 a7 g0 g1 g2 g3 g4 g5 g6 g7 al
        refine (HFN.out _ w3.heap.size hbz hKz).mono ?_
        rintro e w4 ⟨rfl, hb4⟩
        have HK4 := Lib.hid ((hb4.block _ (lt_of_block hKz)).trans hKz); have HF4 := Lib.hid ((hb4.block _ (lt_of_block hFz)).trans hFz); have HW4 := Lib.hid (Term.below_then hbz hb4 hbz.size)
        clear hbz hKz hFz hb4
        obtain ⟨⟨a0, a1, a2, a3, a4, a5, a6, a7⟩, g0, g1, g2, g3, g4, g5, g6, g7⟩ := Parse.cells8' HF4.out
        have al := lt_of_block HF4.out
        have hyf := @show_yes [] (fnT arg ta); have hnf := @show_no [] (fnT arg ta)
        rw [mayP_none] at hyf hnf
        have HYF := Lib.hid hyf; have HNF := Lib.hid hnf
        clear hyf hnf
        generalize showS [] (fnT arg ta) = Sf at *
        generalize showE [] (fnT arg ta) = Ef at *
        go_wp2_with (fail)
        refine (HMF.out w4 w3.heap.size HW4.out HK4.out).mono ?_
        rintro e w5 ⟨rfl, hb5⟩
        have HW5 := Lib.hid (Term.below_then HW4.out hb5 HW4.out.size)
        clear hb5 a0 a1 a2 a3 a4 a5 a6 a7 g0 g1 g2 g3 g4 g5 g6 g7 al
        cases hmf : mayT (fnT arg ta)
        · obtain ⟨rfl, rfl⟩ := HNF.out hmf
          clear hmf
          go_wp2_with (fail)
          refine (HAW.out _ HW5.out).mono ?_
          rintro e w6 ⟨rfl, hb6⟩
          have HW6 := Lib.hid (Term.below_then HW5.out hb6 HW5.out.size)
          clear hb6
          go_wp2_with (fail)
          go_ret
          exact ⟨rfl, HW6.out⟩
        · have hma' := may_fn (by have := HSUM.out; omega) hmf
          obtain ⟨hsf, rfl⟩ := HYF.out hmf
          have hsf' : Sf = jb (wordsT (fnT arg ta)) := hsf
          have htx := @text_fn ta arg (may_ok hma').1
          have htz := text_small (may_ok hmf).1 (may_ok hmf).2
          have hsa := HXA.out hma'
          rw [← hsf', ← hsa] at htx
          rw [← hsf', ← htx] at htz
          simp only [ByteArray.size_append] at htz
          have k4 : ∀ W, (Op.stringOp .add ⟨#[102, 110, 32]⟩ arg).run Tryz.prog W = .ok (.string (⟨#[102, 110, 32]⟩ ++ arg)) W := fun W => add_run _ _ _ rfl (by simp only [ByteArray.size_append]; omega) W
          have k5 : ∀ W, (Op.stringOp .add (⟨#[102, 110, 32]⟩ ++ arg) ⟨#[32, 61, 62, 32]⟩).run Tryz.prog W = .ok (.string (⟨#[102, 110, 32]⟩ ++ arg ++ ⟨#[32, 61, 62, 32]⟩)) W := fun W => add_run _ _ _ rfl (by simp only [ByteArray.size_append]; omega) W
          have k6 : ∀ W, (Op.stringOp .add (⟨#[102, 110, 32]⟩ ++ arg ++ ⟨#[32, 61, 62, 32]⟩) Sa).run Tryz.prog W = .ok (.string (⟨#[102, 110, 32]⟩ ++ arg ++ ⟨#[32, 61, 62, 32]⟩ ++ Sa)) W := fun W => add_run _ _ _ rfl (by simp only [ByteArray.size_append]; omega) W
          rw [htx] at k6
          clear hmf hma' hsf hsf' htx htz hsa
          generalize (⟨#[102, 110, 32]⟩ ++ arg : ByteArray) = X4 at *
          generalize (X4 ++ ⟨#[32, 61, 62, 32]⟩ : ByteArray) = X5 at *
          go_wp2_with (fail)
          refine (HAW.out _ HW5.out).mono ?_
          rintro e w6 ⟨rfl, hb6⟩
          have HW6 := Lib.hid (Term.below_then HW5.out hb6 HW5.out.size)
          clear hb6
          go_wp2_with (fail)
          go_ret
          exact ⟨rfl, HW6.out⟩
    · obtain ⟨hsa, rfl⟩ := hya hma
      obtain ⟨hsb, rfl⟩ := hyb hmb
      rw [hma, hmb, Bool.and_true] at hmp
      obtain ⟨hsp, rfl⟩ := hyp hmp
      have htx := HPAIR.out hma hmb
      have htz := HPS.out hmp
      have hsa' : Sa = jb (wordsT ta) := hsa
      have hsb' : Sb = jb (wordsT tb) := hsb
      have hsp' : Sp = jb (wordsT (pairT ta tb)) := hsp
      rw [← hsa', ← hsb', ← hsp'] at htx
      rw [← hsp', ← htx] at htz
      simp only [ByteArray.size_append] at htz
      have k0 : ∀ W, (Op.stringOp .add ⟨#[40, 32]⟩ Sa).run Tryz.prog W = .ok (.string (⟨#[40, 32]⟩ ++ Sa)) W := fun W => add_run _ _ _ rfl (by simp only [ByteArray.size_append]; omega) W
      have k1 : ∀ W, (Op.stringOp .add (⟨#[40, 32]⟩ ++ Sa) ⟨#[32, 44, 32]⟩).run Tryz.prog W = .ok (.string (⟨#[40, 32]⟩ ++ Sa ++ ⟨#[32, 44, 32]⟩)) W := fun W => add_run _ _ _ rfl (by simp only [ByteArray.size_append]; omega) W
      have k2 : ∀ W, (Op.stringOp .add (⟨#[40, 32]⟩ ++ Sa ++ ⟨#[32, 44, 32]⟩) Sb).run Tryz.prog W = .ok (.string (⟨#[40, 32]⟩ ++ Sa ++ ⟨#[32, 44, 32]⟩ ++ Sb)) W := fun W => add_run _ _ _ rfl (by simp only [ByteArray.size_append]; omega) W
      have k3 : ∀ W, (Op.stringOp .add (⟨#[40, 32]⟩ ++ Sa ++ ⟨#[32, 44, 32]⟩ ++ Sb) ⟨#[32, 41]⟩).run Tryz.prog W = .ok (.string (⟨#[40, 32]⟩ ++ Sa ++ ⟨#[32, 44, 32]⟩ ++ Sb ++ ⟨#[32, 41]⟩)) W := fun W => add_run _ _ _ rfl (by simp only [ByteArray.size_append]; omega) W
      rw [htx] at k3
      have HMA := Lib.hid hma
      have HSA' := Lib.hid hsa'
      clear hya hyb hyp hna hnb hnp hmp hma hmb HPS HPAIR htx htz hsa hsb hsp hsa' hsb' hsp'
      generalize (⟨#[40, 32]⟩ ++ Sa : ByteArray) = X0 at *
      generalize (X0 ++ ⟨#[32, 44, 32]⟩ : ByteArray) = X1 at *
      generalize (X1 ++ Sb : ByteArray) = X2 at *
      all_goals
        go_wp2_with (fail)
        have hbz : Below w.heap.size w ((w3.alloc (.cells #[.int .u8 ka, .int .u8 opa, .int .i64 pla, .int .i64 nna, .string nma, .string ara, .string exa, .slice pa la ca] 29)).alloc (.cells #[.int .u8 11, .int .u8 0, .int .i64 0, .int .i64 0, .string ⟨#[]⟩, .string arg, .string ⟨#[]⟩, .slice (some ⟨w3.heap.size, 0, none⟩) 1 1] 29)) := (HW3.out.alloc HW3.out.size _).alloc (by have := HW3.out.size; simp; omega) _
        have hKz : ((w3.alloc (.cells #[.int .u8 ka, .int .u8 opa, .int .i64 pla, .int .i64 nna, .string nma, .string ara, .string exa, .slice pa la ca] 29)).alloc (.cells #[.int .u8 11, .int .u8 0, .int .i64 0, .int .i64 0, .string ⟨#[]⟩, .string arg, .string ⟨#[]⟩, .slice (some ⟨w3.heap.size, 0, none⟩) 1 1] 29)).heap[w3.heap.size]? = some (.cells #[.int .u8 ka, .int .u8 opa, .int .i64 pla, .int .i64 nna, .string nma, .string ara, .string exa, .slice pa la ca] 29 (0, 0)) := (Below.heap_alloc _ _ _ (by simp)).trans (heap_alloc_new w3 _)
        have hFz : ((w3.alloc (.cells #[.int .u8 ka, .int .u8 opa, .int .i64 pla, .int .i64 nna, .string nma, .string ara, .string exa, .slice pa la ca] 29)).alloc (.cells #[.int .u8 11, .int .u8 0, .int .i64 0, .int .i64 0, .string ⟨#[]⟩, .string arg, .string ⟨#[]⟩, .slice (some ⟨w3.heap.size, 0, none⟩) 1 1] 29)).heap[w3.heap.size + 1]? = some (.cells #[.int .u8 11, .int .u8 0, .int .i64 0, .int .i64 0, .string ⟨#[]⟩, .string arg, .string ⟨#[]⟩, .slice (some ⟨w3.heap.size, 0, none⟩) 1 1] 29 (0, 0)) := by
          have h1 := heap_alloc_new (w3.alloc (.cells #[.int .u8 ka, .int .u8 opa, .int .i64 pla, .int .i64 nna, .string nma, .string ara, .string exa, .slice pa la ca] 29)) (.cells #[.int .u8 11, .int .u8 0, .int .i64 0, .int .i64 0, .string ⟨#[]⟩, .string arg, .string ⟨#[]⟩, .slice (some ⟨w3.heap.size, 0, none⟩) 1 1] 29)
          rw [heap_alloc_size] at h1
          exact h1
        clear a0 a1 a2 a3 a4 a5 a6 a7 g0 g1 g2 g3 g4 g5 g6 g7 al
        refine (HFN.out _ w3.heap.size hbz hKz).mono ?_
        rintro e w4 ⟨rfl, hb4⟩
        have HK4 := Lib.hid ((hb4.block _ (lt_of_block hKz)).trans hKz); have HF4 := Lib.hid ((hb4.block _ (lt_of_block hFz)).trans hFz); have HW4 := Lib.hid (Term.below_then hbz hb4 hbz.size)
        clear hbz hKz hFz hb4
        obtain ⟨⟨a0, a1, a2, a3, a4, a5, a6, a7⟩, g0, g1, g2, g3, g4, g5, g6, g7⟩ := Parse.cells8' HF4.out
        have al := lt_of_block HF4.out
        have hyf := @show_yes [] (fnT arg ta); have hnf := @show_no [] (fnT arg ta)
        rw [mayP_none] at hyf hnf
        have HYF := Lib.hid hyf; have HNF := Lib.hid hnf
        clear hyf hnf
        generalize showS [] (fnT arg ta) = Sf at *
        generalize showE [] (fnT arg ta) = Ef at *
        go_wp2_with (fail)
        refine (HMF.out w4 w3.heap.size HW4.out HK4.out).mono ?_
        rintro e w5 ⟨rfl, hb5⟩
        have HW5 := Lib.hid (Term.below_then HW4.out hb5 HW4.out.size)
        clear hb5 a0 a1 a2 a3 a4 a5 a6 a7 g0 g1 g2 g3 g4 g5 g6 g7 al
        cases hmf : mayT (fnT arg ta)
        · obtain ⟨rfl, rfl⟩ := HNF.out hmf
          clear hmf
          go_wp2_with (fail)
          refine (HAW.out _ HW5.out).mono ?_
          rintro e w6 ⟨rfl, hb6⟩
          have HW6 := Lib.hid (Term.below_then HW5.out hb6 HW5.out.size)
          clear hb6
          go_wp2_with (fail)
          go_ret
          exact ⟨rfl, HW6.out⟩
        · have hma' := may_fn (by have := HSUM.out; omega) hmf
          obtain ⟨hsf, rfl⟩ := HYF.out hmf
          have hsf' : Sf = jb (wordsT (fnT arg ta)) := hsf
          have htx := @text_fn ta arg (may_ok hma').1
          have htz := text_small (may_ok hmf).1 (may_ok hmf).2
          have hsa := HXA.out hma'
          rw [← hsf', ← hsa] at htx
          rw [← hsf', ← htx] at htz
          simp only [ByteArray.size_append] at htz
          have k4 : ∀ W, (Op.stringOp .add ⟨#[102, 110, 32]⟩ arg).run Tryz.prog W = .ok (.string (⟨#[102, 110, 32]⟩ ++ arg)) W := fun W => add_run _ _ _ rfl (by simp only [ByteArray.size_append]; omega) W
          have k5 : ∀ W, (Op.stringOp .add (⟨#[102, 110, 32]⟩ ++ arg) ⟨#[32, 61, 62, 32]⟩).run Tryz.prog W = .ok (.string (⟨#[102, 110, 32]⟩ ++ arg ++ ⟨#[32, 61, 62, 32]⟩)) W := fun W => add_run _ _ _ rfl (by simp only [ByteArray.size_append]; omega) W
          have k6 : ∀ W, (Op.stringOp .add (⟨#[102, 110, 32]⟩ ++ arg ++ ⟨#[32, 61, 62, 32]⟩) Sa).run Tryz.prog W = .ok (.string (⟨#[102, 110, 32]⟩ ++ arg ++ ⟨#[32, 61, 62, 32]⟩ ++ Sa)) W := fun W => add_run _ _ _ rfl (by simp only [ByteArray.size_append]; omega) W
          rw [htx] at k6
          clear hmf hma' hsf hsf' htx htz hsa
          generalize (⟨#[102, 110, 32]⟩ ++ arg : ByteArray) = X4 at *
          generalize (X4 ++ ⟨#[32, 61, 62, 32]⟩ : ByteArray) = X5 at *
          go_wp2_with (fail)
          refine (HAW.out _ HW5.out).mono ?_
          rintro e w6 ⟨rfl, hb6⟩
          have HW6 := Lib.hid (Term.below_then HW5.out hb6 HW5.out.size)
          clear hb6
          go_wp2_with (fail)
          go_ret
          exact ⟨rfl, HW6.out⟩
theorem showJoins_walk (ha : Hd) (pa : Option Addr) (la ca : Nat) (ta : Tm) (hb : Hd) (pb : Option Addr) (lb cb : Nat) (tb : Tm) (arg : ByteArray) (w : World) (hTa : TmIs w ha pa la ca ta) (hTb : TmIs w hb pb lb cb tb) (hsz : arg.size ≤ maxLen) (hl : Words.Laid2 w) :
    Calls Tryz.prog 11 #[.agg #[.int .u8 ha.k, .int .u8 ha.op, .int .i64 ha.pl, .int .i64 ha.n, .string ha.name, .string ha.arg, .string ha.exn, .slice pa la ca], .agg #[.int .u8 hb.k, .int .u8 hb.op, .int .i64 hb.pl, .int .i64 hb.n, .string hb.name, .string hb.arg, .string hb.exn, .slice pb lb cb], .string arg] w fun e w' => e = .returned (.bool true) ∧ Below w.heap.size w w' := by
  obtain ⟨ka, opa, pla, nna, nma, ara, exa⟩ := ha
  obtain ⟨kb, opb, plb, nnb, nmb, arb, exb⟩ := hb
  exact joins_walk ka opa pla nna nma ara exa pa la ca ta kb opb plb nnb nmb arb exb pb lb cb tb arg w hTa hTb hsz hl
end Show
end Go.Proofs.YtanbjakknnmfgaaGreatDoor
