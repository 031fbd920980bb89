/-The document's Equal: a term is equal to itself, wherever it lies. (Written by wip/tools/ateraselaw.py out of XParseX4.) The walk of 'any term without its regions is the document's'. (Written by wip/tools/ateraselaw.py.) From what a row lists of the keywords to what layer 2's walks ask of the world. -/
import Derived.Test.YtolpdhkgkjnbfaaDoorGC13
import Derived.Test.YtolpdhkgkjnbfaaDoorGC11
import Derived.Test.YtolpdhkgkjnbfaaDoorGC08
import Derived.Deep.RegionHeld3
import Derived.Deep.QuietTactic
import Derived.BigQuiet
import Derived.Test.YtolpdhkgkjnbfaaDoorGC05
import Derived.Test.YtolpdhkgkjnbfaaDoorGC00
import Derived.Stop.LaidErr
import Derived.LaidMore
import Derived.LaidByTextLater
namespace Go.Proofs.YtolpdhkgkjnbfaaDoor
open Go.RowKit
set_option linter.unusedVariables false
set_option linter.unusedSimpArgs false
namespace DocEq
open Aterm (cells8t)
open Effect (lt_of_block heap_alloc_new)
open Term (Tm TmIs Flat tcells veil Reads HdOk sameT sameK sameH flatT tget)
theorem row_cellE {w : World} {base e size n c g : Nat} {xs : List Value} (h : w.ownsRow base e size (.slice (some ⟨g, 0, none⟩) n c) n xs) {j : Nat} {u : Value} (hu : xs[j]? = some u) : w.cell? ⟨g, j, none⟩ = some u := by
  have := h.cells (g := g) rfl j u hu
  rw [Addr.add_lit] at this
  simpa using this
theorem same_one : ∀ m : Nat, (∀ t : Tm, Term.wt t ≤ m → sameT t t = true) ∧ (∀ ts : List Tm, Term.wts ts ≤ m → sameK ts ts = true) := by
  intro m
  induction m with
  | zero =>
    refine ⟨fun t h => by have := Term.wt_pos t; omega, fun ts h => ?_⟩
    cases ts with
    | nil => exact Term.sameK_nil _
    | cons t ts => rw [Term.wts_cons] at h; have := Term.wt_pos t; omega
  | succ m ih =>
    have hT : ∀ t : Tm, Term.wt t ≤ m + 1 → sameT t t = true := by
      intro t hm
      rw [Term.sameT_eq, Bool.and_eq_true, Bool.and_eq_true]
      have := Term.wt_ks t
      exact ⟨⟨decide_eq_true ⟨rfl, rfl, rfl, rfl, rfl, rfl⟩, decide_eq_true rfl⟩, ih.2 t.ks (by omega)⟩
    refine ⟨hT, fun ts => ?_⟩
    induction ts with
    | nil => intro _; exact Term.sameK_nil _
    | cons t ts iht =>
      intro hm
      rw [Term.wts_cons] at hm
      rw [Term.sameK_cons, Bool.and_eq_true]
      exact ⟨hT t (by omega), iht (by omega)⟩
theorem same_refl (t : Tm) : sameT t t = true := (same_one (Term.wt t)).1 t (Nat.le_refl _)
theorem al_n (W : World) (O : Obj) : Below W.heap.size W (W.alloc O) := (Below.refl _ _).alloc (Nat.le_refl _) O
theorem below_dN {B : Nat} {a w : World} (h : Below B a w) (n : Nat) : Below B a (w.drewN n) := h.trans ⟨rfl, rfl, rfl, Nat.le_refl _, fun _ _ => rfl⟩
/-- What the two rows hold. -/
def RowAtE (g : Nat) (t : Tm) (W : World) : Prop := ∀ j, j < Term.wt t → W.cell? ⟨g, j * 8 + 2, none⟩ = some (.int .i64 (tget (flatT t) j).h.pl)
theorem RowAtE.below {g : Nat} {t : Tm} {W W' : World} (h : RowAtE g t W) (hb : Below W.heap.size W W') : RowAtE g t W' := fun j hj => (hb.cell (p := ⟨g, j * 8 + 2, none⟩) (World.block_lt_of_cell? _ _ (h j hj))).trans (h j hj)
theorem rowAtE_of {g c : Nat} {t : Tm} {w0 W : World} {B : Nat} {xs : List Value} (hown : W.ownsRow B 44 8 (.slice (some ⟨g, 0, none⟩) (Term.wt t) c) (Term.wt t) xs) (hfl : Flat w0 xs (flatT t)) : RowAtE g t W := by
  intro j hj
  obtain ⟨q', c', _, hc⟩ := hfl.get j (by rw [Term.flatT_len]; exact hj)
  exact row_cellE hown (hc 2 _ rfl)
set_option maxRecDepth 100000 in
set_option maxHeartbeats 25600000 in
theorem equalD_walk (t : Tm) (h h' : Term.Hd) (p p' : Option Addr) (l c l' c' : Nat) (w : World) (hT : TmIs w h p l c t) (hU : TmIs w h' p' l' c' t) (hw : Term.wt t ≤ 4000) :
    Calls Tryd.prog 16 #[.agg #[.int .u8 h.k, .int .u8 h.op, .int .i64 h.pl, .int .i64 h.n, .string h.name, .string h.arg, .string h.exn, .slice p l c], .agg #[.int .u8 h'.k, .int .u8 h'.op, .int .i64 h'.pl, .int .i64 h'.n, .string h'.name, .string h'.arg, .string h'.exn, .slice p' l' c']] w fun e w' => e = .returned (.bool true) ∧ Below w.heap.size w w' := by
  obtain ⟨W, hW⟩ : ∃ W, W = (w.alloc (.cells #[.int .u8 h.k, .int .u8 h.op, .int .i64 h.pl, .int .i64 h.n, .string h.name, .string h.arg, .string h.exn, .slice p l c] 44)).alloc (.cells #[.int .u8 h'.k, .int .u8 h'.op, .int .i64 h'.pl, .int .i64 h'.n, .string h'.name, .string h'.arg, .string h'.exn, .slice p' l' c'] 44) := ⟨_, rfl⟩
  have hbW : Below w.heap.size w W := by rw [hW]; exact (al_n w _).trans ((al_n _ _).mono (by simp))
  have hs := Term.refSame_walk (Term.wt t) t t h h' p p' l c l' c' W (Nat.le_refl _) (hT.below hbW) (hU.below hbW)
  rw [same_refl] at hs
  have h1 := fun V (hb : Below W.heap.size W V) => Term.refAll_walk (Term.wt t) t h p l c W V (Nat.le_refl _) (by omega) (hT.below hbW) hb
  have h2 := fun V (hb : Below W.heap.size W V) => Term.refAll_walk (Term.wt t) t h' p' l' c' W V (Nat.le_refl _) (by omega) (hU.below hbW) hb
  have hx1 : W.heap[w.heap.size]? = some (.cells #[.int .u8 h.k, .int .u8 h.op, .int .i64 h.pl, .int .i64 h.n, .string h.name, .string h.arg, .string h.exn, .slice p l c] 44 (0, 0)) := by rw [hW, Below.heap_alloc _ _ _ (by simp)]; exact heap_alloc_new w _
  have hx2 : W.heap[w.heap.size + 1]? = some (.cells #[.int .u8 h'.k, .int .u8 h'.op, .int .i64 h'.pl, .int .i64 h'.n, .string h'.name, .string h'.arg, .string h'.exn, .slice p' l' c'] 44 (0, 0)) := by
    have e : (w.alloc (.cells #[.int .u8 h.k, .int .u8 h.op, .int .i64 h.pl, .int .i64 h.n, .string h.name, .string h.arg, .string h.exn, .slice p l c] 44)).heap.size = w.heap.size + 1 := by simp
    rw [hW, ← e]; exact heap_alloc_new _ _
  have hwi : (Term.wt t : Int) ≤ 4000 := by omega
  rw [hW] at hs
  have HS := Lib.hid hs; have H1 := Lib.hid h1; have H2 := Lib.hid h2; have HX1 := Lib.hid hx1; have HX2 := Lib.hid hx2; have HBW := Lib.hid hbW; have HW := Lib.hid hW
  clear hT hU hs h1 h2 hx1 hx2 hbW hw
  go_enter Tryd.func16, Tryd.ntmps16
  go_wp2_with (fail)
  refine HS.out.mono ?_
  rintro e w1 ⟨rfl, hb1⟩
  rw [← HW.out] at hb1
  have HB1 := Lib.hid hb1
  clear hb1 HS
  go_wp2_with (fail)
  have hini : Below W.heap.size W w1.drew := HB1.out.drew
  refine wp_region_held_drew (S := fun V => Below W.heap.size W V) (by kernel_rfl) hini (fun hHeld => ?_)
  generalize w1.drew = v0 at *
  refine wpAnyH_take (i := 0) (v := .agg #[.int .u8 h.k, .int .u8 h.op, .int .i64 h.pl, .int .i64 h.n, .string h.name, .string h.arg, .string h.exn, .slice p l c]) rfl (by kernel_rfl) (by kernel_rfl) (by kernel_rfl) (fun _ _ _ h => h) (Or.inl ⟨by rfl, ?_⟩) (by assumption) ?_
  · intro w' hSw
    obtain ⟨⟨g0, g1, g2, g3, g4, g5, g6, g7⟩, d0, d1, d2, d3, d4, d5, d6, d7⟩ := cells8t ((hSw.block _ (lt_of_block HX1.out)).trans HX1.out)
    first | (go_simp; done) | rfl
  try simp only [Act.put, List.getElem_toArray, List.getElem_cons_succ, List.getElem_cons_zero, List.setIfInBounds_toArray, List.set_cons_zero, List.set_cons_succ]
  refine wpAnyH_take (i := 2) (v := .agg #[.int .u8 h'.k, .int .u8 h'.op, .int .i64 h'.pl, .int .i64 h'.n, .string h'.name, .string h'.arg, .string h'.exn, .slice p' l' c']) rfl (by kernel_rfl) (by kernel_rfl) (by kernel_rfl) (fun _ _ _ h => h) (Or.inl ⟨by rfl, ?_⟩) (by assumption) ?_
  · intro w' hSw
    obtain ⟨⟨g0, g1, g2, g3, g4, g5, g6, g7⟩, d0, d1, d2, d3, d4, d5, d6, d7⟩ := cells8t ((hSw.block _ (lt_of_block HX2.out)).trans HX2.out)
    first | (go_simp; done) | rfl
  try simp only [Act.put, List.getElem_toArray, List.getElem_cons_succ, List.getElem_cons_zero, List.setIfInBounds_toArray, List.set_cons_zero, List.set_cons_succ]
  refine wpAnyH_ready (rs := [1]) (by kernel_rfl) (by simp) ?_
  refine AllReadyH.cons rfl (fun K hK => ?_) AllReadyH.nil
  have HK2 := Lib.hid hK
  clear hK
  go_simp
  refine (H1.out _ hini).mono ?_
  rintro e v1 ⟨ga, ca, xa, rfl, hoa, hfa, hba⟩
  have HA := Lib.hid (rowAtE_of hoa hfa)
  have HU1 := Lib.hid (hini.trans (hba.mono hini.size))
  clear hoa hfa hba
  refine HK2.out _ _ HU1.out (fun hHeld => ?_)
  clear HK2
  try simp only [Act.put, List.getElem_toArray, List.getElem_cons_succ, List.getElem_cons_zero, List.setIfInBounds_toArray, List.set_cons_zero, List.set_cons_succ]
  clear K
  refine wpAnyH_ready (rs := [3]) (by kernel_rfl) (by simp) ?_
  refine AllReadyH.cons rfl (fun K hK => ?_) AllReadyH.nil
  have HK2 := Lib.hid hK
  clear hK
  go_simp
  refine (H2.out _ HU1.out).mono ?_
  rintro e v2 ⟨gb, cb, xb, rfl, hob, hfb, hbb⟩
  have HB := Lib.hid (rowAtE_of hob hfb)
  have HA2 := Lib.hid (HA.out.below hbb)
  have HU2 := Lib.hid (HU1.out.trans (hbb.mono HU1.out.size))
  clear hob hfb hbb
  refine HK2.out _ _ HU2.out (fun hHeld => ?_)
  clear HK2
  try simp only [Act.put, List.getElem_toArray, List.getElem_cons_succ, List.getElem_cons_zero, List.setIfInBounds_toArray, List.set_cons_zero, List.set_cons_succ]
  clear K
  refine wpAnyH_ready (rs := [4]) (by kernel_rfl) (by simp) ?_
  refine AllReadyH.cons rfl (fun K hK => ?_) AllReadyH.nil
  have HK2 := Lib.hid hK
  clear hK
  go_simp
  refine HK2.out _ _ HU2.out (fun hHeld => ?_)
  clear HK2
  try simp only [Act.put, List.getElem_toArray, List.getElem_cons_succ, List.getElem_cons_zero, List.setIfInBounds_toArray, List.set_cons_zero, List.set_cons_succ]
  clear K
  refine wpAnyH_ready (rs := [5]) (by kernel_rfl) (by simp) ?_
  refine AllReadyH.cons rfl (fun K hK => ?_) AllReadyH.nil
  have HK2 := Lib.hid hK
  clear hK
  go_simp
  refine HK2.out _ _ HU2.out (fun hHeld => ?_)
  clear HK2
  try simp only [Act.put, List.getElem_toArray, List.getElem_cons_succ, List.getElem_cons_zero, List.setIfInBounds_toArray, List.set_cons_zero, List.set_cons_succ]
  clear K
  refine wpAnyH_done (by kernel_rfl) ?_ _
  clear hHeld
  have hfin : ∀ V, Below v2.heap.size v2 V → Below w.heap.size w V := fun V hb => HBW.out.trans ((HU2.out.trans (hb.mono HU2.out.size)).mono HBW.out.size)
  have HF := Lib.hid hfin
  clear hfin hini
  go_wp2_with (fail)
  go_loopw [18] (fun i wr => ∃ k : Nat, k ≤ Term.wt t ∧ i = .int .i64 k ∧ Below v2.heap.size v2 wr) (fun i _ => Term.wt t - (intOf i).toNat)
  case atStart => exact ⟨0, Nat.zero_le _, rfl, Below.refl _ _⟩
  case round =>
    obtain ⟨k, hk, rfl, hw⟩ := hrel
    have HW9 := Lib.hid hw
    by_cases hlt : k < Term.wt t
    · have ca := (HA2.out.below hw) k hlt
      have cb := (HB.out.below hw) k hlt
      generalize (tget (flatT t) k).h.pl = pl at *
      have hki : (k : Int) < (Term.wt t : Int) := by omega
      have hk0 : (0 : Int) ≤ (k : Int) := by omega
      clear hw
      go_wp2_with (fail)
      go_quiet (fail)
      go_wp2_with (fail)
      go_roundw
      case rel => exact ⟨k + 1, by omega, by go_num, below_dN HW9.out _⟩
      case measure => simp [intOf]; omega
    · obtain rfl : k = Term.wt t := by omega
      clear hw
      go_wp2
      go_ret
      exact ⟨rfl, HF.out _ HW9.out⟩
end DocEq
end Go.Proofs.YtolpdhkgkjnbfaaDoor
namespace Go.Proofs.YtolpdhkgkjnbfaaDoor
open Go.RowKit
set_option linter.unusedVariables false
set_option linter.unusedSimpArgs false
namespace Aterm
open Effect (RdI nget nget_at nget_mem ret_bool ret_i64 lt_of_block heap_alloc_new ofA)
open Rt (box_new box_at below_then)
open Term (Tm TmIs Reads veil veil_to tcells)

theorem wt_erase : ∀ (m : Nat) (t : AT), wt t ≤ m → Term.wt (eraseT t) ≤ wt t := by
  intro m
  induction m with
  | zero => intro t hm; have := wt_pos t; omega
  | succ m ih =>
    intro t hm
    have hwt := wt_ks t
    by_cases hr : t.h.h.k = 17 ∧ t.ks ≠ []
    · cases hks : t.ks with
      | nil => exact absurd hks hr.2
      | cons u us =>
        rw [hks, wts_cons] at hwt
        rw [eraseT_reg hr.1 hks]
        have := ih u (by omega)
        omega
    · rw [eraseT_no hr, Term.wt_ks]
      show Term.wts (eraseK t.ks) + 1 ≤ wt t
      have : ∀ ts : List AT, wts ts ≤ m → Term.wts (eraseK ts) ≤ wts ts := by
        intro ts
        induction ts with
        | nil => intro _; rw [eraseK_nil, Term.wts_nil, wts_nil]; exact Nat.le_refl _
        | cons u us iu =>
          intro hu
          rw [wts_cons] at hu
          rw [eraseK_cons, Term.wts_cons, wts_cons]
          have h1 := ih u (by omega)
          have h2 := iu (by omega)
          omega
      have := this t.ks (by omega)
      omega
theorem ex_is64 {w : World} {k rho : Int} {p : Option Addr} {c : Nat} {ts : List AT} (hk : 0 ≤ k ∧ k ≤ 255) (hr : -9223372036854775808 ≤ rho ∧ rho ≤ 9223372036854775807) (hc : ts.length ≤ c ∧ c ≤ maxLen) (hks : Kids w p ts) : AtIs w (exH k rho) (exV p c) ts.length (.node (exH k rho) ts) :=
  ⟨rfl, rfl, ⟨⟨hk, by show (0 : Int) ≤ 0 ∧ (0 : Int) ≤ 255; omega, by show (-9223372036854775808 : Int) ≤ 0 ∧ (0 : Int) ≤ 9223372036854775807; omega, by show (-9223372036854775808 : Int) ≤ 0 ∧ (0 : Int) ≤ 9223372036854775807; omega, by show 0 ≤ maxLen; exact Nat.zero_le _, by show 0 ≤ maxLen; exact Nat.zero_le _, by show 0 ≤ maxLen; exact Nat.zero_le _⟩,
    by show -9223372036854775808 ≤ rho ∧ rho ≤ 9223372036854775807; omega, ⟨rfl, .inl rfl, fun x hx => by cases hx⟩, ⟨Nat.le_refl _, by show 0 ≤ maxLen; exact Nat.zero_le _⟩, zeroEff w, (fun x hx => by cases hx), zeroRt w, zeroRt w⟩, hc, hks⟩
set_option maxRecDepth 100000 in
set_option maxHeartbeats 12800000 in
theorem eraseLaw_walk (h : Hd) (v : V) (l : Nat) (t : AT) (rho : Int) (w : World) (hT : AtIs w h v l t) (hrho : (Lit.int .i64 rho).wf = true) (hkw : Words.KwLaid w) :
    Calls Tryd.prog 4 #[.agg #[.int .u8 h.h.k, .int .u8 h.h.op, .int .i64 h.h.pl, .int .i64 h.h.n, .string h.h.name, .string h.h.arg, .string h.h.exn, .int .i64 h.rho, .slice v.ra h.rhos.length v.rc, .slice v.ea h.e.length v.ec, .int .u8 h.ty.h.k, .int .i64 h.ty.h.r, .slice v.tea h.ty.h.e.length v.tec, .slice v.tka h.ty.ks.length v.tkc, .int .u8 h.re.h.k, .int .i64 h.re.h.r, .slice v.sea h.re.h.e.length v.sec, .slice v.ska h.re.ks.length v.skc, .slice v.ka l v.kc], .int .i64 rho] w fun e w' => e = .returned (.bool true) ∧ Below w.heap.size w w' := by
  have hrb : -9223372036854775808 ≤ rho ∧ rho ≤ 9223372036854775807 := (show IntKind.i64.min ≤ rho ∧ rho ≤ 9223372036854775807 from by simpa [Lit.wf] using hrho)
  have haw := fun (W : World) (hb : Below w.heap.size w W) => awake_walk W (hkw.below hb)
  have hg1 := fun (W : World) (hb : Below w.heap.size w W) => great_walk t h v l W (hT.below hb)
  have HAW := Lib.hid haw; have HG1 := Lib.hid hg1; have HT := Lib.hid hT; have HRB := Lib.hid hrb
  clear haw hg1 hT hkw hrb hrho
  go_enter Tryd.func4, Tryd.ntmps4
  go_upto_region 1 with (fail)
  refine of_world (F := fun V => Below w.heap.size w V ∧ V.rangeAt w.heap.size 0 (acells h v l)) ⟨box_new _, row_new rfl⟩ ?_
  rintro W0 ⟨hb0, hr0⟩
  generalize hN1 : w.heap.size = N1 at hr0 ⊢
  have HC0 := Lib.hid hb0; have HR0 := Lib.hid hr0
  clear hb0 hr0 hN1
  go_wp2_with (refine at_load rfl _ rfl N1 0 rfl HR0.out ?_)
  refine (HG1.out W0 HC0.out).mono ?_
  rintro e w1 ⟨rfl, hb1⟩
  have HC1 := Lib.hid (below_then HC0.out hb1 HC0.out.size); have HR1 := Lib.hid (range_below HR0.out hb1)
  clear hb1 HC0 HR0
  clear W0
  cases hq1 : greatT t
  case true =>
    go_wp2_with (fail)
    refine (HAW.out w1 HC1.out).mono ?_
    rintro e w2 ⟨rfl, hb2⟩
    have HC2 := Lib.hid (below_then HC1.out hb2 HC1.out.size)
    clear hb2
    go_wp2_with (fail)
    go_ret
    exact ⟨rfl, HC2.out⟩
  have hs1 := small_of hq1
  have hwe := wt_erase _ t (Nat.le_refl _)
  have hx4 : Term.wt (eraseT t) ≤ 4000 := by omega
  have hxe : ∀ ts : List AT, ts = [t] → eraseT (.node (exH 17 rho) ts) = eraseT t := by
    rintro ts rfl
    exact eraseT_reg (u := t) (us := []) rfl rfl
  have hxe := hxe [t] rfl
  have hxw : wt (.node (exH 17 rho) [t]) = wt t + 1 := by rw [wt_ks]; simp only [AT.ks]; rw [wts_cons, wts_nil]
  have herp := fun (W : World) (hb : Below w.heap.size w W) => erase_walk _ t h v l W (Nat.le_refl _) (by omega) (HT.out.below hb)
  have herd := fun (W : World) (hb : Below w.heap.size w W) => refErase_walk _ t h v l W (Nat.le_refl _) (by omega) (HT.out.below hb)
  have herx := fun (W : World) (hx : Hd) (vx : V) (hX : AtIs W hx vx 1 (.node (exH 17 rho) [t])) => erase_walk _ _ hx vx 1 W (Nat.le_refl _) (by omega) hX
  rw [hxe] at herx
  obtain ⟨E, hE⟩ : ∃ E, E = eraseT t := ⟨_, rfl⟩
  rw [← hE] at herp herd herx hx4
  have heq := fun (h1 h2 : Term.Hd) (p1 p2 : Option Addr) (l1 c1 l2 c2 : Nat) (W : World) (k1 : TmIs W h1 p1 l1 c1 E) (k2 : TmIs W h2 p2 l2 c2 E) => DocEq.equalD_walk E h1 h2 p1 p2 l1 c1 l2 c2 W k1 k2 hx4
  have HERP := Lib.hid herp; have HERD := Lib.hid herd; have HERX := Lib.hid herx; have HEQ := Lib.hid heq
  clear herp herd herx heq hx4 hE hs1 hwe hxe hxw hq1
  go_upto_region 3 with (fail)
  generalize hW0 : w1 = W0 at HC1 HR1 ⊢
  clear hW0
  go_upto_region 4 with (first | refine at_load rfl _ rfl N1 0 rfl HR1.out ?_ | refine at_store2 rfl _ _ rfl _ rfl (exH 17 rho) (exV (some ⟨W0.heap.size, 0, none⟩) 1) 1 _ (by simp) rfl rfl ?_)
  refine of_world (F := fun V => Below W0.heap.size W0 V ∧ AtIs V (exH 17 rho) (exV (some ⟨W0.heap.size, 0, none⟩) 1) 1 (.node (exH 17 rho) [t]) ∧ V.rangeAt (W0.heap.size + 1) 0 (acells (exH 17 rho) (exV (some ⟨W0.heap.size, 0, none⟩) 1) 1))
    ⟨(box_new _).trans ((box_new _).mono (by simp)), (ex_is64 (k := 17) (rho := rho) (p := some ⟨W0.heap.size, 0, none⟩) (c := 1) (ts := [t]) (by decide) HRB.out ⟨Nat.le_refl _, by unfold maxLen; show 1 ≤ _; omega⟩ (kids_new (HT.out.below HC1.out) rfl)).below (box_new _), row_new (by simp)⟩ ?_
  rintro W2 ⟨hb2, hj2, hr2⟩
  have HX2 := Lib.hid hr2; have HJ2 := Lib.hid hj2; have HC2 := Lib.hid (below_then HC1.out hb2 HC1.out.size); have HR2 := Lib.hid (range_below HR1.out hb2)
  clear hr2 hj2 hb2
  generalize hN2 : W0.heap.size + 1 = N2 at HX2 ⊢
  clear hN2
  go_wp2_with (refine at_load rfl _ rfl N1 0 rfl HR2.out ?_)
  refine (HERD.out W2 HC2.out).mono ?_
  rintro e w3 ⟨q, c, rfl, hD, hb3⟩
  have hD' := hD.reads' (Term.veil_reads _ _)
  go_upto_region 5 with (fail)
  refine of_world (F := fun V => Below w3.heap.size w3 V ∧ V.heap[w3.heap.size]? = some (.cells #[.int .u8 E.h.k, .int .u8 E.h.op, .int .i64 E.h.pl, .int .i64 E.h.n, .string E.h.name, .string E.h.arg, .string E.h.exn, .slice q E.ks.length c] 44 (0, 0))) ⟨box_new _, heap_alloc_new _ _⟩ ?_
  rintro W4 ⟨hb4, hn4⟩
  have hb24 := hb3.trans (hb4.mono hb3.size)
  have HC4 := Lib.hid (below_then HC2.out hb24 HC2.out.size); have HR4 := Lib.hid (range_below HR2.out hb24); have HX4 := Lib.hid (range_below HX2.out hb24)
  have HJ4 := Lib.hid (HJ2.out.below hb24); have HD4 := Lib.hid (hD'.below hb4); have HN4 := Lib.hid hn4
  generalize hN3 : w3.heap.size = N3 at HN4 ⊢
  clear hb3 hb4 hb24 hn4 hD hD' hN3 HJ2 HX2 HR2 HC2 HR1 HC1
  have hini : Below W4.heap.size W4 W4.drew := (Below.refl _ _).drew
  refine wp_region_held_drew (S := fun (V : World) => Below W4.heap.size W4 V) (by kernel_rfl) hini (fun hHeld => ?_)
  generalize W4.drew = v0 at *
  refine wpAnyH_take (i := 0) (v := .agg #[.int .u8 h.h.k, .int .u8 h.h.op, .int .i64 h.h.pl, .int .i64 h.h.n, .string h.h.name, .string h.h.arg, .string h.h.exn, .int .i64 h.rho, .slice v.ra h.rhos.length v.rc, .slice v.ea h.e.length v.ec, .int .u8 h.ty.h.k, .int .i64 h.ty.h.r, .slice v.tea h.ty.h.e.length v.tec, .slice v.tka h.ty.ks.length v.tkc, .int .u8 h.re.h.k, .int .i64 h.re.h.r, .slice v.sea h.re.h.e.length v.sec, .slice v.ska h.re.ks.length v.skc, .slice v.ka l v.kc]) rfl (by kernel_rfl) (by kernel_rfl) (by kernel_rfl) (fun _ _ _ h => h) (Or.inl ⟨by rfl, ?_⟩) (by assumption) ?_
  · intro w' hSw
    exact exec_at _ rfl N1 0 rfl (range_below HR4.out hSw)
  try simp only [Act.put, List.getElem_toArray, List.getElem_cons_succ, List.getElem_cons_zero, List.setIfInBounds_toArray, List.set_cons_zero, List.set_cons_succ]
  refine wpAnyH_take (i := 2) (v := .agg #[.int .u8 E.h.k, .int .u8 E.h.op, .int .i64 E.h.pl, .int .i64 E.h.n, .string E.h.name, .string E.h.arg, .string E.h.exn, .slice q E.ks.length c]) rfl (by kernel_rfl) (by kernel_rfl) (by kernel_rfl) (fun _ _ _ h => h) (Or.inl ⟨by rfl, ?_⟩) (by assumption) ?_
  · intro w' hSw
    obtain ⟨⟨g0, g1, g2, g3, g4, g5, g6, g7⟩, d0, d1, d2, d3, d4, d5, d6, d7⟩ := cells8t ((hSw.block _ (lt_of_block HN4.out)).trans HN4.out)
    first | (go_simp; done) | rfl
  try simp only [Act.put, List.getElem_toArray, List.getElem_cons_succ, List.getElem_cons_zero, List.setIfInBounds_toArray, List.set_cons_zero, List.set_cons_succ]
  refine wpAnyH_ready (rs := [1]) (by kernel_rfl) (by simp) ?_
  refine AllReadyH.cons rfl (fun K hK => ?_) AllReadyH.nil
  have HK2 := Lib.hid hK
  clear hK
  try rw [if_pos (by rfl)]
  go_simp
  refine (HERP.out _ (below_then HC4.out hini HC4.out.size)).mono ?_
  rintro e v1 ⟨q1, c1, rfl, hP, hb5⟩
  have HU1 := Lib.hid (hini.trans (hb5.mono hini.size))
  have HP1 := Lib.hid (hP.reads' (Term.veil_reads _ _))
  clear hP hb5
  refine HK2.out _ _ HU1.out (fun hHeld => ?_)
  clear HK2
  try simp only [Act.put, List.getElem_toArray, List.getElem_cons_succ, List.getElem_cons_zero, List.setIfInBounds_toArray, List.set_cons_zero, List.set_cons_succ]
  clear K
  refine wpAnyH_ready (rs := [3]) (by kernel_rfl) (by simp) ?_
  refine AllReadyH.cons rfl (fun K hK => ?_) AllReadyH.nil
  have HK2 := Lib.hid hK
  clear hK
  try rw [if_pos (by rfl)]
  go_simp
  refine (HEQ.out _ _ _ _ _ _ _ _ v1 HP1.out (HD4.out.below HU1.out)).mono ?_
  rintro e v2 ⟨rfl, hb6⟩
  have HU2 := Lib.hid (HU1.out.trans (hb6.mono HU1.out.size))
  clear hb6
  refine HK2.out _ _ HU2.out (fun hHeld => ?_)
  clear HK2
  try simp only [Act.put, List.getElem_toArray, List.getElem_cons_succ, List.getElem_cons_zero, List.setIfInBounds_toArray, List.set_cons_zero, List.set_cons_succ]
  clear K
  refine wpAnyH_ready (rs := [4]) (by kernel_rfl) (by simp) ?_
  refine AllReadyH.cons rfl (fun K hK => ?_) AllReadyH.nil
  have HK2 := Lib.hid hK
  clear hK
  try rw [if_pos (by rfl)]
  go_simp
  refine HK2.out _ _ HU2.out (fun hHeld => ?_)
  clear HK2
  try simp only [Act.put, List.getElem_toArray, List.getElem_cons_succ, List.getElem_cons_zero, List.setIfInBounds_toArray, List.set_cons_zero, List.set_cons_succ]
  clear K
  refine wpAnyH_take (i := 5) (v := .agg #[.int .u8 (exH 17 rho).h.k, .int .u8 (exH 17 rho).h.op, .int .i64 (exH 17 rho).h.pl, .int .i64 (exH 17 rho).h.n, .string (exH 17 rho).h.name, .string (exH 17 rho).h.arg, .string (exH 17 rho).h.exn, .int .i64 (exH 17 rho).rho, .slice (exV (some ⟨W0.heap.size, 0, none⟩) 1).ra (exH 17 rho).rhos.length (exV (some ⟨W0.heap.size, 0, none⟩) 1).rc, .slice (exV (some ⟨W0.heap.size, 0, none⟩) 1).ea (exH 17 rho).e.length (exV (some ⟨W0.heap.size, 0, none⟩) 1).ec, .int .u8 (exH 17 rho).ty.h.k, .int .i64 (exH 17 rho).ty.h.r, .slice (exV (some ⟨W0.heap.size, 0, none⟩) 1).tea (exH 17 rho).ty.h.e.length (exV (some ⟨W0.heap.size, 0, none⟩) 1).tec, .slice (exV (some ⟨W0.heap.size, 0, none⟩) 1).tka (exH 17 rho).ty.ks.length (exV (some ⟨W0.heap.size, 0, none⟩) 1).tkc, .int .u8 (exH 17 rho).re.h.k, .int .i64 (exH 17 rho).re.h.r, .slice (exV (some ⟨W0.heap.size, 0, none⟩) 1).sea (exH 17 rho).re.h.e.length (exV (some ⟨W0.heap.size, 0, none⟩) 1).sec, .slice (exV (some ⟨W0.heap.size, 0, none⟩) 1).ska (exH 17 rho).re.ks.length (exV (some ⟨W0.heap.size, 0, none⟩) 1).skc, .slice (exV (some ⟨W0.heap.size, 0, none⟩) 1).ka 1 (exV (some ⟨W0.heap.size, 0, none⟩) 1).kc]) rfl (by kernel_rfl) (by kernel_rfl) (by kernel_rfl) (fun _ _ _ h => h) (Or.inl ⟨by rfl, ?_⟩) (by assumption) ?_
  · intro w' hSw
    exact exec_at (h := exH 17 rho) (v := exV (some ⟨W0.heap.size, 0, none⟩) 1) (l := 1) _ rfl N2 0 rfl (range_below HX4.out hSw)
  try simp only [Act.put, List.getElem_toArray, List.getElem_cons_succ, List.getElem_cons_zero, List.setIfInBounds_toArray, List.set_cons_zero, List.set_cons_succ]
  refine wpAnyH_take (i := 7) (v := .agg #[.int .u8 E.h.k, .int .u8 E.h.op, .int .i64 E.h.pl, .int .i64 E.h.n, .string E.h.name, .string E.h.arg, .string E.h.exn, .slice q E.ks.length c]) rfl (by kernel_rfl) (by kernel_rfl) (by kernel_rfl) (fun _ _ _ h => h) (Or.inl ⟨by rfl, ?_⟩) (by assumption) ?_
  · intro w' hSw
    obtain ⟨⟨g0, g1, g2, g3, g4, g5, g6, g7⟩, d0, d1, d2, d3, d4, d5, d6, d7⟩ := cells8t ((hSw.block _ (lt_of_block HN4.out)).trans HN4.out)
    first | (go_simp; done) | rfl
  try simp only [Act.put, List.getElem_toArray, List.getElem_cons_succ, List.getElem_cons_zero, List.setIfInBounds_toArray, List.set_cons_zero, List.set_cons_succ]
  refine wpAnyH_ready (rs := [6]) (by kernel_rfl) (by simp) ?_
  refine AllReadyH.cons rfl (fun K hK => ?_) AllReadyH.nil
  have HK2 := Lib.hid hK
  clear hK
  try rw [if_pos (by rfl)]
  go_simp
  refine (HERX.out v2 _ _ (HJ4.out.below HU2.out)).mono ?_
  rintro e v3 ⟨q3, c3, rfl, hP, hb7⟩
  have HU3 := Lib.hid (HU2.out.trans (hb7.mono HU2.out.size))
  have HP3 := Lib.hid (hP.reads' (Term.veil_reads _ _))
  clear hP hb7
  refine HK2.out _ _ HU3.out (fun hHeld => ?_)
  clear HK2
  try simp only [Act.put, List.getElem_toArray, List.getElem_cons_succ, List.getElem_cons_zero, List.setIfInBounds_toArray, List.set_cons_zero, List.set_cons_succ]
  clear K
  refine wpAnyH_ready (rs := [8]) (by kernel_rfl) (by simp) ?_
  refine AllReadyH.cons rfl (fun K hK => ?_) AllReadyH.nil
  have HK2 := Lib.hid hK
  clear hK
  try rw [if_pos (by rfl)]
  go_simp
  refine (HEQ.out _ _ _ _ _ _ _ _ v3 HP3.out (HD4.out.below HU3.out)).mono ?_
  rintro e v4 ⟨rfl, hb8⟩
  have HU4 := Lib.hid (HU3.out.trans (hb8.mono HU3.out.size))
  clear hb8
  refine HK2.out _ _ HU4.out (fun hHeld => ?_)
  clear HK2
  try simp only [Act.put, List.getElem_toArray, List.getElem_cons_succ, List.getElem_cons_zero, List.setIfInBounds_toArray, List.set_cons_zero, List.set_cons_succ]
  clear K
  refine wpAnyH_ready (rs := [9]) (by kernel_rfl) (by simp) ?_
  refine AllReadyH.cons rfl (fun K hK => ?_) AllReadyH.nil
  have HK2 := Lib.hid hK
  clear hK
  try rw [if_pos (by rfl)]
  go_simp
  refine HK2.out _ _ HU4.out (fun hHeld => ?_)
  clear HK2
  try simp only [Act.put, List.getElem_toArray, List.getElem_cons_succ, List.getElem_cons_zero, List.setIfInBounds_toArray, List.set_cons_zero, List.set_cons_succ]
  clear K
  refine wpAnyH_ready (rs := [10]) (by kernel_rfl) (by simp) ?_
  refine AllReadyH.cons rfl (fun K hK => ?_) AllReadyH.nil
  have HK2 := Lib.hid hK
  clear hK
  try rw [if_pos (by rfl)]
  go_simp
  refine HK2.out _ _ HU4.out (fun hHeld => ?_)
  clear HK2
  try simp only [Act.put, List.getElem_toArray, List.getElem_cons_succ, List.getElem_cons_zero, List.setIfInBounds_toArray, List.set_cons_zero, List.set_cons_succ]
  clear K
  refine wpAnyH_ready (rs := [11]) (by kernel_rfl) (by simp) ?_
  refine AllReadyH.cons rfl (fun K hK => ?_) AllReadyH.nil
  have HK2 := Lib.hid hK
  clear hK
  try rw [if_pos (by rfl)]
  go_simp
  refine (HAW.out v4 (below_then HC4.out HU4.out HC4.out.size)).mono ?_
  rintro e v5 ⟨rfl, hb9⟩
  have HU5 := Lib.hid (HU4.out.trans (hb9.mono HU4.out.size))
  clear hb9
  refine HK2.out _ _ HU5.out (fun hHeld => ?_)
  clear HK2
  try simp only [Act.put, List.getElem_toArray, List.getElem_cons_succ, List.getElem_cons_zero, List.setIfInBounds_toArray, List.set_cons_zero, List.set_cons_succ]
  clear K
  refine wpAnyH_ready (rs := [12]) (by kernel_rfl) (by simp) ?_
  refine AllReadyH.cons rfl (fun K hK => ?_) AllReadyH.nil
  have HK2 := Lib.hid hK
  clear hK
  try rw [if_pos (by rfl)]
  go_simp
  refine HK2.out _ _ HU5.out (fun hHeld => ?_)
  clear HK2
  try simp only [Act.put, List.getElem_toArray, List.getElem_cons_succ, List.getElem_cons_zero, List.setIfInBounds_toArray, List.set_cons_zero, List.set_cons_succ]
  clear K
  refine wpAnyH_ready (rs := [13]) (by kernel_rfl) (by simp) ?_
  refine AllReadyH.cons rfl (fun K hK => ?_) AllReadyH.nil
  have HK2 := Lib.hid hK
  clear hK
  try rw [if_pos (by rfl)]
  go_simp
  refine HK2.out _ _ HU5.out (fun hHeld => ?_)
  clear HK2
  try simp only [Act.put, List.getElem_toArray, List.getElem_cons_succ, List.getElem_cons_zero, List.setIfInBounds_toArray, List.set_cons_zero, List.set_cons_succ]
  clear K
  refine wpAnyH_done (by kernel_rfl) ?_ _
  clear hHeld
  go_wp2_with (fail)
  go_ret
  exact ⟨rfl, below_then HC4.out HU5.out HC4.out.size⟩
end Aterm
end Go.Proofs.YtolpdhkgkjnbfaaDoor
namespace Go.Proofs.YtolpdhkgkjnbfaaDoor
open Go.RowKit Go.ChangeShapes
namespace Words

/-- AN ARRAY OF TEXTS THAT READS AS A TABLE HOLDS THE TABLE's TEXTS, cell for cell. -/
theorem cells_of_strs {H : Type} {enc : TypeId × Value → H} {P : Program} {w : World} {base : Nat} {sp : Nat → Bool} {held : Bool} {fuel : Nat} {t e : TypeId} {n : Nat} {cs : List Value} {zs : List (List UInt8)} {p : List MemPlace}
    (ht : P.underlying t = some (.array n e)) (he : P.underlying e = some .string) (hce : P.cellsOf e = 1) (hct : P.cellsOf t = n)
    (h : DataW.trod enc P w base sp held fuel t cs = some (.agg (zs.map fun z => .lit (.string z)), p)) : cs = zs.map fun z => Value.string ⟨z.toArray⟩ := by
  cases fuel with
  | zero => simp [DataW.trod] at h
  | succ fuel =>
    simp only [DataW.trod, ht, hce, hct, Nat.mul_one] at h
    split at h
    · rename_i hl
      obtain ⟨xs, hm, hx⟩ := Option.map_eq_some_iff.1 h
      have hxs : xs.map (·.1) = zs.map fun z => (DataW.lit (.string z) : DataW H) := by
        have := congrArg Prod.fst hx
        simpa using this
      have hxl : xs.length = n := by simpa using Lib.mapM_length hm
      have hzl : zs.length = n := by
        have := congrArg List.length hxs
        simp at this
        omega
      apply List.ext_getElem?
      intro i
      by_cases hi : i < n
      · obtain ⟨b, hb, hf⟩ := Lib.mapM_at hm i i (by simp [hi])
        obtain ⟨z, hc, rfl, _⟩ := DataW.trod_string he hf
        have h1 : cs[i]? = some (.string z) := by
          have := congrArg (·[0]?) hc
          simpa [List.getElem?_take, List.getElem?_drop] using this
        have h2 : (xs.map (·.1))[i]? = some (DataW.lit (.string z.data.toList) : DataW H) := by simp [hb]
        rw [hxs] at h2
        simp only [List.getElem?_map, Option.map_eq_some_iff, DataW.lit.injEq, Lit.string.injEq] at h2
        obtain ⟨z', hz', e⟩ := h2
        simp [h1, hz', e]
      · rw [List.getElem?_eq_none (by omega), List.getElem?_eq_none (by simp; omega)]
    · cases h

theorem gKw : Tryd.prog.globalNamed "enclave/words.keywords" = some 0 := by kernel_rfl
theorem tKw : (Tryd.prog.globals[0]?).map (·.type) = some 100 := by kernel_rfl
theorem kwLaid_of {W : World} {r : List (String × DataW Unit)} (h : laidMet Tryd.prog (("enclave/words.keywords", Rows.laid_enclave_words_keywords) :: r) W) : KwLaid W := by
  obtain ⟨ps, ⟨g', t', cs, fuel, p, q, hg', ht', hvar, hd, _, _⟩, _⟩ := h
  obtain rfl := Option.some.inj (gKw.symm.trans hg')
  obtain rfl := Option.some.inj (tKw.symm.trans ht')
  have hcs := cells_of_strs (zs := kwTexts) Tryd.underlying100 Tryd.underlying9 (by kernel_rfl) (by kernel_rfl) hd
  intro k hk
  have := World.var?_cell gKw hvar k
  obtain ⟨l⟩ := cs
  simp only at hcs
  subst hcs
  have hk' : k < kwTexts.length := hk
  rw [this]
  simp [kwT, List.getD, hk']

end Words
end Go.Proofs.YtolpdhkgkjnbfaaDoor
