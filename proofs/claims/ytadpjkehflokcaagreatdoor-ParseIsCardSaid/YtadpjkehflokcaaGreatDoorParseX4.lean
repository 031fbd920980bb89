/- The document's Equal: a term is equal to itself, wherever it lies. (Written by wip/tools/dequal.py.) -/
import Derived.Test.YtadpjkehflokcaaGreatDoorGTermB
import Derived.Test.YtadpjkehflokcaaGreatDoorGParseB
import Derived.Deep.RegionHeld3
import Derived.Deep.QuietTactic
namespace Go.Proofs.YtadpjkehflokcaaGreatDoor
open Go.RowKit
set_option linter.unusedVariables false
set_option linter.unusedSimpArgs false
namespace Parse
open Term (Tm Hd TmIs Flat tcells veil Reads HdOk Kids sameT sameK sameH flatT tget ret_bool)

theorem same_one : ∀ m : Nat, (∀ t : Tm, Term.wt t ≤ m → sameT t t = true) ∧ (∀ ts : List Tm, Term.wts ts ≤ m → sameK ts ts = true) := by
  intro m
  induction m with
  | zero =>
    refine ⟨fun t h => by have := Term.wt_pos t; omega, fun ts h => ?_⟩
    cases ts with
    | nil => exact Term.sameK_nil _
    | cons t ts => rw [Term.wts_cons] at h; have := Term.wt_pos t; omega
  | succ m ih =>
    have hT : ∀ t : Tm, Term.wt t ≤ m + 1 → sameT t t = true := by
      intro t hm
      rw [Term.sameT_eq, Bool.and_eq_true, Bool.and_eq_true]
      have := Term.wt_ks t
      exact ⟨⟨decide_eq_true ⟨rfl, rfl, rfl, rfl, rfl, rfl⟩, decide_eq_true rfl⟩, ih.2 t.ks (by omega)⟩
    refine ⟨hT, fun ts => ?_⟩
    induction ts with
    | nil => intro _; exact Term.sameK_nil _
    | cons t ts iht =>
      intro hm
      rw [Term.wts_cons] at hm
      rw [Term.sameK_cons, Bool.and_eq_true]
      exact ⟨hT t (by omega), iht (by omega)⟩
theorem same_refl (t : Tm) : sameT t t = true := (same_one (Term.wt t)).1 t (Nat.le_refl _)
theorem al_n (W : World) (O : Obj) : Below W.heap.size W (W.alloc O) := (Below.refl _ _).alloc (Nat.le_refl _) O
theorem below_dN {B : Nat} {a w : World} (h : Below B a w) (n : Nat) : Below B a (w.drewN n) := h.trans ⟨rfl, rfl, rfl, Nat.le_refl _, fun _ _ => rfl⟩
/-- What the two rows hold. -/
def RowAtE (g : Nat) (t : Tm) (W : World) : Prop := ∀ j, j < Term.wt t → W.cell? ⟨g, j * 8 + 2, none⟩ = some (.int .i64 (tget (flatT t) j).h.pl)
theorem RowAtE.below {g : Nat} {t : Tm} {W W' : World} (h : RowAtE g t W) (hb : Below W.heap.size W W') : RowAtE g t W' := fun j hj => (hb.cell (p := ⟨g, j * 8 + 2, none⟩) (World.block_lt_of_cell? _ _ (h j hj))).trans (h j hj)
theorem rowAtE_of {g c : Nat} {t : Tm} {w0 W : World} {B : Nat} {xs : List Value} (hown : W.ownsRow B 29 8 (.slice (some ⟨g, 0, none⟩) (Term.wt t) c) (Term.wt t) xs) (hfl : Flat w0 xs (flatT t)) : RowAtE g t W := by
  intro j hj
  obtain ⟨q', c', _, hc⟩ := hfl.get j (by rw [Term.flatT_len]; exact hj)
  exact Term.row_cell hown (hc 2 _ rfl)
/-- While both rows are made. -/
structure EqS (w W V : World) : Prop where
  below : Below w.heap.size w V
  off : ∀ b, b < W.heap.size → V.heap[b]? = W.heap[b]?
  size : W.heap.size ≤ V.heap.size
  up : Below W.heap.size W V
set_option maxRecDepth 100000 in
set_option maxHeartbeats 25600000 in
theorem equalD_walk (t : Tm) (h h' : Hd) (p p' : Option Addr) (l c l' c' : Nat) (w : World) (hT : TmIs w h p l c t) (hU : TmIs w h' p' l' c' t) (hw : Term.wt t ≤ 4000) :
    Calls Tryz.prog 11 #[.agg #[.int .u8 h.k, .int .u8 h.op, .int .i64 h.pl, .int .i64 h.n, .string h.name, .string h.arg, .string h.exn, .slice p l c], .agg #[.int .u8 h'.k, .int .u8 h'.op, .int .i64 h'.pl, .int .i64 h'.n, .string h'.name, .string h'.arg, .string h'.exn, .slice p' l' c']] w fun e w' => e = .returned (.bool true) ∧ Below w.heap.size w w' := by
  obtain ⟨W, hW⟩ : ∃ W, W = (w.alloc (.cells #[.int .u8 h.k, .int .u8 h.op, .int .i64 h.pl, .int .i64 h.n, .string h.name, .string h.arg, .string h.exn, .slice p l c] 29)).alloc (.cells #[.int .u8 h'.k, .int .u8 h'.op, .int .i64 h'.pl, .int .i64 h'.n, .string h'.name, .string h'.arg, .string h'.exn, .slice p' l' c'] 29) := ⟨_, rfl⟩
  have hbW : Below w.heap.size w W := by rw [hW]; exact (al_n w _).trans ((al_n _ _).mono (by simp))
  have hs := Term.refSame_walk (Term.wt t) t t h h' p p' l c l' c' W (Nat.le_refl _) (hT.below hbW) (hU.below hbW)
  rw [same_refl] at hs
  have h1 := fun V (hb : Below W.heap.size W V) => Term.refAll_walk (Term.wt t) t h p l c W V (Nat.le_refl _) (by omega) (hT.below hbW) hb
  have h2 := fun V (hb : Below W.heap.size W V) => Term.refAll_walk (Term.wt t) t h' p' l' c' W V (Nat.le_refl _) (by omega) (hU.below hbW) hb
  have hx1 : W.heap[w.heap.size]? = some (.cells #[.int .u8 h.k, .int .u8 h.op, .int .i64 h.pl, .int .i64 h.n, .string h.name, .string h.arg, .string h.exn, .slice p l c] 29 (0, 0)) := by rw [hW, Below.heap_alloc _ _ _ (by simp)]; exact heap_alloc_new w _
  have hx2 : W.heap[w.heap.size + 1]? = some (.cells #[.int .u8 h'.k, .int .u8 h'.op, .int .i64 h'.pl, .int .i64 h'.n, .string h'.name, .string h'.arg, .string h'.exn, .slice p' l' c'] 29 (0, 0)) := by
    have e : (w.alloc (.cells #[.int .u8 h.k, .int .u8 h.op, .int .i64 h.pl, .int .i64 h.n, .string h.name, .string h.arg, .string h.exn, .slice p l c] 29)).heap.size = w.heap.size + 1 := by simp
    rw [hW, ← e]; exact heap_alloc_new _ _
  have hwi : (Term.wt t : Int) ≤ 4000 := by omega
  rw [hW] at hs
  have HS := Lib.hid hs; have H1 := Lib.hid h1; have H2 := Lib.hid h2; have HX1 := Lib.hid hx1; have HX2 := Lib.hid hx2; have HBW := Lib.hid hbW; have HW := Lib.hid hW
  clear hT hU hs h1 h2 hx1 hx2 hbW hw
  go_enter Tryz.func11, Tryz.ntmps11
  go_wp2_with (fail)
  refine HS.out.mono ?_
  rintro e w1 ⟨rfl, hb1⟩
  rw [← HW.out] at hb1
  have HB1 := Lib.hid hb1
  clear hb1 HS
  go_wp2_with (fail)
  have hini : Below W.heap.size W w1.drew := HB1.out.drew
  refine wp_region_held_drew (S := fun V => Below W.heap.size W V) (by kernel_rfl) hini (fun hHeld => ?_)
  generalize w1.drew = v0 at *
  refine wpAnyH_take (i := 0) (v := .agg #[.int .u8 h.k, .int .u8 h.op, .int .i64 h.pl, .int .i64 h.n, .string h.name, .string h.arg, .string h.exn, .slice p l c]) rfl (by kernel_rfl) (by kernel_rfl) (by kernel_rfl) (fun _ _ _ h => h) (Or.inl ⟨by rfl, ?_⟩) (by assumption) ?_
  · intro w' hSw
    obtain ⟨⟨g0, g1, g2, g3, g4, g5, g6, g7⟩, d0, d1, d2, d3, d4, d5, d6, d7⟩ := cells8' ((hSw.block _ (lt_of_block HX1.out)).trans HX1.out)
    first | (go_simp; done) | rfl
  try simp only [Act.put, List.getElem_toArray, List.getElem_cons_succ, List.getElem_cons_zero, List.setIfInBounds_toArray, List.set_cons_zero, List.set_cons_succ]
  refine wpAnyH_take (i := 2) (v := .agg #[.int .u8 h'.k, .int .u8 h'.op, .int .i64 h'.pl, .int .i64 h'.n, .string h'.name, .string h'.arg, .string h'.exn, .slice p' l' c']) rfl (by kernel_rfl) (by kernel_rfl) (by kernel_rfl) (fun _ _ _ h => h) (Or.inl ⟨by rfl, ?_⟩) (by assumption) ?_
  · intro w' hSw
    obtain ⟨⟨g0, g1, g2, g3, g4, g5, g6, g7⟩, d0, d1, d2, d3, d4, d5, d6, d7⟩ := cells8' ((hSw.block _ (lt_of_block HX2.out)).trans HX2.out)
    first | (go_simp; done) | rfl
  try simp only [Act.put, List.getElem_toArray, List.getElem_cons_succ, List.getElem_cons_zero, List.setIfInBounds_toArray, List.set_cons_zero, List.set_cons_succ]
  refine wpAnyH_ready (rs := [1]) (by kernel_rfl) (by simp) ?_
  refine AllReadyH.cons rfl (fun K hK => ?_) AllReadyH.nil
  have HK2 := Lib.hid hK
  clear hK
  go_simp
  refine (H1.out _ hini).mono ?_
  rintro e v1 ⟨ga, ca, xa, rfl, hoa, hfa, hba⟩
  have HA := Lib.hid (rowAtE_of hoa hfa)
  have HU1 := Lib.hid (hini.trans (hba.mono hini.size))
  clear hoa hfa hba
  refine HK2.out _ _ HU1.out (fun hHeld => ?_)
  clear HK2
  try simp only [Act.put, List.getElem_toArray, List.getElem_cons_succ, List.getElem_cons_zero, List.setIfInBounds_toArray, List.set_cons_zero, List.set_cons_succ]
  clear K
  refine wpAnyH_ready (rs := [3]) (by kernel_rfl) (by simp) ?_
  refine AllReadyH.cons rfl (fun K hK => ?_) AllReadyH.nil
  have HK2 := Lib.hid hK
  clear hK
  go_simp
  refine (H2.out _ HU1.out).mono ?_
  rintro e v2 ⟨gb, cb, xb, rfl, hob, hfb, hbb⟩
  have HB := Lib.hid (rowAtE_of hob hfb)
  have HA2 := Lib.hid (HA.out.below hbb)
  have HU2 := Lib.hid (HU1.out.trans (hbb.mono HU1.out.size))
  clear hob hfb hbb
  refine HK2.out _ _ HU2.out (fun hHeld => ?_)
  clear HK2
  try simp only [Act.put, List.getElem_toArray, List.getElem_cons_succ, List.getElem_cons_zero, List.setIfInBounds_toArray, List.set_cons_zero, List.set_cons_succ]
  clear K
  refine wpAnyH_ready (rs := [4]) (by kernel_rfl) (by simp) ?_
  refine AllReadyH.cons rfl (fun K hK => ?_) AllReadyH.nil
  have HK2 := Lib.hid hK
  clear hK
  go_simp
  refine HK2.out _ _ HU2.out (fun hHeld => ?_)
  clear HK2
  try simp only [Act.put, List.getElem_toArray, List.getElem_cons_succ, List.getElem_cons_zero, List.setIfInBounds_toArray, List.set_cons_zero, List.set_cons_succ]
  clear K
  refine wpAnyH_ready (rs := [5]) (by kernel_rfl) (by simp) ?_
  refine AllReadyH.cons rfl (fun K hK => ?_) AllReadyH.nil
  have HK2 := Lib.hid hK
  clear hK
  go_simp
  refine HK2.out _ _ HU2.out (fun hHeld => ?_)
  clear HK2
  try simp only [Act.put, List.getElem_toArray, List.getElem_cons_succ, List.getElem_cons_zero, List.setIfInBounds_toArray, List.set_cons_zero, List.set_cons_succ]
  clear K
  refine wpAnyH_done (by kernel_rfl) ?_ _
  clear hHeld
  have hfin : ∀ V, Below v2.heap.size v2 V → Below w.heap.size w V := fun V hb => HBW.out.trans ((HU2.out.trans (hb.mono HU2.out.size)).mono HBW.out.size)
  have HF := Lib.hid hfin
  clear hfin hini
  go_wp2_with (fail)
  go_loopw [18] (fun i wr => ∃ k : Nat, k ≤ Term.wt t ∧ i = .int .i64 k ∧ Below v2.heap.size v2 wr) (fun i _ => Term.wt t - (intOf i).toNat)
  case atStart => exact ⟨0, Nat.zero_le _, rfl, Below.refl _ _⟩
  case round =>
    obtain ⟨k, hk, rfl, hw⟩ := hrel
    have HW9 := Lib.hid hw
    by_cases hlt : k < Term.wt t
    · have ca := (HA2.out.below hw) k hlt
      have cb := (HB.out.below hw) k hlt
      generalize (tget (flatT t) k).h.pl = pl at *
      have hki : (k : Int) < (Term.wt t : Int) := by omega
      have hk0 : (0 : Int) ≤ (k : Int) := by omega
      clear hw
      go_wp2_with (fail)
      go_quiet (fail)
      go_wp2_with (fail)
      go_roundw
      case rel => exact ⟨k + 1, by omega, by go_num, below_dN HW9.out _⟩
      case measure => simp [intOf]; omega
    · obtain rfl : k = Term.wt t := by omega
      clear hw
      go_wp2
      go_ret
      exact ⟨rfl, HF.out _ HW9.out⟩
end Parse
end Go.Proofs.YtadpjkehflokcaaGreatDoor
