/-The walks of the document's Binds of terms with regions. The walks of the document's May of terms with regions, and of 'whether any term with regions may be is the document's'. (Written by wip/tools/atmayslaw.py.) The walk of 'the text of a term with a region around it is that text, behind the region's words'. (Written by wip/tools/dslaws.py.) -/
import Derived.Test.YtfncpcijfphngaaGreatDoorGC15
import Derived.Test.YtfncpcijfphngaaGreatDoorGC09
import Derived.Test.YtfncpcijfphngaaGreatDoorGC23
import Derived.Deep.RegionHeld3
import Derived.Test.YtfncpcijfphngaaGreatDoorGC21
import Derived.Deep.DeepCutAuto

namespace Go.Proofs.YtfncpcijfphngaaGreatDoor
open Go.RowKit
set_option linter.unusedVariables false
set_option linter.unusedSimpArgs false
namespace Aterm
open Effect (RdI nget nget_at nget_mem Ixs intsV own_slice)
open Rt (box_new box_at below_then)

/-- A row of nodes that was made, as it lies later. -/
structure AllAt (w0 W : World) (g c : Nat) (F : List AT) : Prop where
  own : ∃ B xs, W.ownsRow B 31 19 (.slice (some ⟨g, 0, none⟩) F.length c) F.length xs ∧ Flat w0 xs F
theorem AllAt.below {w0 W W' : World} {g c : Nat} {F : List AT} (h : AllAt w0 W g c F) (hb : Below W.heap.size W W') : AllAt w0 W' g c F := by
  obtain ⟨B, xs, h1, h2⟩ := h.own
  exact ⟨B, xs, own_below h1 hb, h2⟩
theorem ixs_ne {B m g : Nat} {W : World} {v : Value} {l : List Int} (h : Ixs B W v m l) {cur : Array Value} {fr : Nat × Nat} (hg : W.heap[g]? = some (.cells cur 31 fr)) : some g ≠ v.ownBlock := by
  intro e
  rcases h.2 with ⟨rfl, _⟩ | ⟨k, cap, cur', rfl, _, hk, _⟩
  · simp [Value.ownBlock] at e
  · simp [Value.ownBlock] at e
    subst e
    rw [hg] at hk
    injection hk with hk
    injection hk with _ hk _
    exact absurd hk (by decide)
theorem AllAt.grown {w0 W W' : World} {g c B m : Nat} {F : List AT} {v : Value} {l : List Int} (h : AllAt w0 W g c F) (hi : Ixs B W v m l) (hg : W.grownBy W' v.ownBlock) : AllAt w0 W' g c F := by
  obtain ⟨B', xs, h1, h2⟩ := h.own
  refine ⟨B', xs, h1.kept hg ?_, h2⟩
  rcases h1.2 with ⟨e, _⟩ | ⟨k, cap, cur, e, _, hk, _⟩
  · cases e
  · injection e with e
    injection e with e
    injection e with e
    subst e
    exact .inr (ixs_ne hi hk)
theorem AllAt.get {w0 W : World} {g c : Nat} {F : List AT} (h : AllAt w0 W g c F) (j : Nat) (hj : j < F.length) :
    ∃ v, AtIs w0 (tget F j).h v (tget F j).ks.length (tget F j) ∧ W.rangeAt g (j * 19) (acells (tget F j).h v (tget F j).ks.length) := by
  obtain ⟨B, xs, h1, h2⟩ := h.own
  obtain ⟨v, h3, h4⟩ := h2.get j hj
  refine ⟨v, h3, fun i x hx => ?_⟩
  have := h1.cells (g := g) rfl _ _ (h4 i x hx)
  rw [Addr.add_lit, Nat.zero_add] at this
  exact this
theorem own_lower {W : World} {B B' e s n : Nat} {v : Value} {xs : List Value} (h : W.ownsRow B e s v n xs) (hB : B' ≤ B) : W.ownsRow B' e s v n xs :=
  ⟨h.1, h.2.imp id (fun ⟨g, cap, cur, a, b, r⟩ => ⟨g, cap, cur, a, by omega, r⟩)⟩

end Aterm
end Go.Proofs.YtfncpcijfphngaaGreatDoor
namespace Go.Proofs.YtfncpcijfphngaaGreatDoor
open Go.RowKit
set_option linter.unusedVariables false
set_option linter.unusedSimpArgs false
namespace Aterm
open Effect (RdI nget nget_at nget_mem ret_bool ret_i64 lt_of_block heap_alloc_new ofA)
open Rt (box_new box_at below_then)

theorem may_flat {t : AT} (hw : wt t ≤ 40000) : mayT t = decide (∀ j, j < (flatT t).length → nodeB (tget (flatT t) j).h (tget (flatT t) j).ks.length = true) := by
  unfold mayT
  rw [decide_eq_true hw, Bool.true_and, allT_flat, Bool.eq_iff_iff, List.all_eq_true, decide_eq_true_eq]
  constructor
  · intro h j hj; exact h _ (tget_mem hj)
  · intro h x hx
    obtain ⟨j, hj, rfl⟩ := List.getElem_of_mem hx
    have h1 := tget_at hj
    rw [List.getElem?_eq_getElem hj] at h1
    rw [Option.some.inj h1]; exact h j hj
theorem small_flat {t : AT} (hc : allT smallB t = true) {j : Nat} (hj : j < (flatT t).length) : smallB (tget (flatT t) j).h (tget (flatT t) j).ks.length = true := by
  rw [allT_flat, List.all_eq_true] at hc
  exact hc _ (tget_mem hj)
set_option maxRecDepth 100000 in
set_option maxHeartbeats 3200000 in
theorem refMayA_walk (t : AT) (h : Hd) (v : V) (l : Nat) (w : World) (hT : AtIs w h v l t) (hw : wt t ≤ 40000) (hc : allT smallB t = true) :
    Calls Tryz.prog 11 #[.agg #[.int .u8 h.h.k, .int .u8 h.h.op, .int .i64 h.h.pl, .int .i64 h.h.n, .string h.h.name, .string h.h.arg, .string h.h.exn, .int .i64 h.rho, .slice v.ra h.rhos.length v.rc, .slice v.ea h.e.length v.ec, .int .u8 h.ty.h.k, .int .i64 h.ty.h.r, .slice v.tea h.ty.h.e.length v.tec, .slice v.tka h.ty.ks.length v.tkc, .int .u8 h.re.h.k, .int .i64 h.re.h.r, .slice v.sea h.re.h.e.length v.sec, .slice v.ska h.re.ks.length v.skc, .slice v.ka l v.kc]] w fun e w' => e = .returned (.bool (mayT t)) ∧ Below w.heap.size w w' := by
  have hmf := may_flat hw
  have hfl := flatT_len t
  have hsf := fun (j : Nat) (hj : j < (flatT t).length) => small_flat hc hj
  have HT := Lib.hid hT; have HWT := Lib.hid hw; have HMF := Lib.hid hmf; have HSF := Lib.hid hsf
  clear hT hw hmf hsf hc
  go_enter Tryz.func11, Tryz.ntmps11
  go_upto_region 1 with (fail)
  obtain ⟨W0, hW0⟩ : ∃ W0, W0 = w.alloc (.cells #[.int .u8 h.h.k, .int .u8 h.h.op, .int .i64 h.h.pl, .int .i64 h.h.n, .string h.h.name, .string h.h.arg, .string h.h.exn, .int .i64 h.rho, .slice v.ra h.rhos.length v.rc, .slice v.ea h.e.length v.ec, .int .u8 h.ty.h.k, .int .i64 h.ty.h.r, .slice v.tea h.ty.h.e.length v.tec, .slice v.tka h.ty.ks.length v.tkc, .int .u8 h.re.h.k, .int .i64 h.re.h.r, .slice v.sea h.re.h.e.length v.sec, .slice v.ska h.re.ks.length v.skc, .slice v.ka l v.kc] 31) := ⟨_, rfl⟩
  have hbx : Box W0 w.heap.size h v l := by rw [hW0]; exact box_of (w := w) (h := h) (v := v) (l := l)
  have hb0 : Below w.heap.size w W0 := by rw [hW0]; exact box_new _
  rw [← hW0]
  clear hW0
  generalize hN0 : w.heap.size = N0 at hbx ⊢
  have HB0 := Lib.hid hb0; have HBX := Lib.hid hbx; have HRG := Lib.hid hbx.range
  obtain ⟨b0, b1, b2, b3, b4, b5, b6, b7, b8, b9, b10, b11, b12, b13, b14, b15, b16, b17, b18⟩ := hbx
  clear hb0 hN0 b0 b1 b2 b3 b4 b5 b6 b7 b8 b9 b10 b11 b12 b13 b14 b15 b16 b17 b18
  go_wp2_with (refine at_load rfl _ rfl N0 0 rfl HRG.out ?_)
  refine (refAll_walk (wt t) t h v l w W0 (Nat.le_refl _) (by have := HWT.out; omega) HT.out HB0.out).mono ?_
  rintro e w2 ⟨g, c2, xs, rfl, hown2, hfl2, hb2⟩
  have hall : AllAt w w2 g c2 (flatT t) := ⟨_, xs, by rw [hfl]; exact hown2, hfl2⟩
  have HB2 := Lib.hid (below_then HB0.out hb2 HB0.out.size); have HALL := Lib.hid hall
  clear hown2 hfl2 hb2 hall
  generalize hF : flatT t = F at *
  obtain ⟨n, hn⟩ : ∃ n, n = wt t := ⟨_, rfl⟩
  rw [← hn] at hfl ⊢
  have hn4 : (n : Int) ≤ 40000 := by have := HWT.out; omega
  have g4 : decide ((40000 : Int) < (n : Int)) = false := decide_eq_false (by omega)
  have HFL := Lib.hid hfl
  clear hfl hn hF
  go_wp2_with (fail)
  go_loopw [4, 12] (fun _ i wr => ∃ j : Nat, j ≤ n ∧ i = .int .i64 j ∧ Hid (Below w.heap.size w wr) ∧ Hid (AllAt w wr g c2 F) ∧ Hid (∀ i, i < j → nodeB (tget F i).h (tget F i).ks.length = true)) (fun _ i _ => n - (intOf i).toNat)
  case atStart => exact ⟨0, Nat.zero_le _, rfl, HB2, HALL, Lib.hid (fun i hi => by omega)⟩
  case round =>
    obtain ⟨j, hj, rfl, HB, HA, HE⟩ := hrel
    by_cases hlt : j < n
    · have hjf : j < F.length := by rw [HFL.out]; exact hlt
      obtain ⟨v', hat, hrg⟩ := HA.out.get j hjf
      have hsm := HSF.out j hjf
      have hnode := refNodeA_walk (tget F j) _ v' _ wr (hat.below HB.out) hsm
      have hno : nodeB (tget F j).h (tget F j).ks.length = false → mayT t = false := fun hh => by
        rw [HMF.out, decide_eq_false_iff_not]
        intro ha
        have := ha j hjf
        rw [hh] at this; cases this
      have hyes : nodeB (tget F j).h (tget F j).ks.length = true → ∀ i, i < j + 1 → nodeB (tget F i).h (tget F i).ks.length = true := fun hh i hi => by
        rcases Nat.lt_or_ge i j with h1 | h1
        · exact HE.out i h1
        · rw [show i = j by omega]; exact hh
      have HNODE := Lib.hid hnode; have HRJ := Lib.hid hrg; have HNO := Lib.hid hno; have HYES := Lib.hid hyes
      clear hnode hrg hno hyes hat hsm hjf
      have j0 : (0 : Int) ≤ (j : Int) := by omega
      have j1 : (j : Int) < (n : Int) := by omega
      go_wp2_with (refine at_load rfl _ rfl g (j * 19) rfl HRJ.out ?_)
      refine HNODE.out.mono ?_
      rintro e w3 ⟨rfl, hb3⟩
      have HB3 := Lib.hid (below_then HB.out hb3 HB.out.size); have HA3 := Lib.hid (HA.out.below hb3)
      clear hb3 HNODE
      generalize nodeB (tget F j).h (tget F j).ks.length = X at *
      cases X
      · have HR := Lib.hid (HNO.out rfl)
        go_wp2_with (fail)
        go_ret
        exact ⟨ret_bool HR.out.symm, HB3.out⟩
      · have HR := Lib.hid (HYES.out rfl)
        go_wp2_with (fail)
        go_roundw
        case rel => exact ⟨j + 1, by omega, by go_num, HB3, HA3, HR⟩
        case measure => simp [intOf]; omega
    · obtain rfl : j = n := by omega
      have HR := Lib.hid (show mayT t = true by
        rw [HMF.out]
        exact decide_eq_true (fun i hi => HE.out i (by rw [HFL.out] at hi; exact hi)))
      go_wp2_with (fail)
      go_ret
      exact ⟨ret_bool HR.out.symm, HB.out⟩
end Aterm
end Go.Proofs.YtfncpcijfphngaaGreatDoor
namespace Go.Proofs.YtfncpcijfphngaaGreatDoor
open Go.RowKit
set_option linter.unusedVariables false
set_option linter.unusedSimpArgs false
namespace Disp
open Effect (At AtOk AtsAt Rd RdI ofA ret_i64 ret_bool lt_of_block heap_alloc_new own_slice digs NumLaid textE)
open Aterm (AT Hd V AtIs HdIs acells tget wt wts nodeB allT allK smallB Box box_of at_load at_load_g exec_at range_below of_world atInfo greatT small_of great_walk refMayA_walk row_new mayT refAll_walk)
open Rt (box_new below_then kw wAt wBang)
open Types (jb bl bl_inj bl_append bl_app bl_cons bl_one jb_one wInt wOpen wShut wStar wRef wArrow)
open DispEx (exH exV ex_is kids_new)

theorem str_self2 (s : ByteArray) : (s.toList == s.toList) = true := by simp
/-- A term with a region around it. -/
def roundT (r : Int) (t : AT) : AT := .node (exH 17 r) [t]
theorem round_all (B : Hd → Nat → Bool) {r : Int} {t : AT} (h1 : B (exH 17 r) 1 = true) (h2 : allT B t = true) : allT B (roundT r t) = true := by
  unfold roundT
  rw [Aterm.allT_eq]
  simp only [AT.h, AT.ks, List.length_cons, List.length_nil]
  rw [show B (exH 17 r) (0 + 1) = true from h1, Aterm.allK_cons, Aterm.allK_nil, h2]; rfl
theorem round_small {r : Int} {t : AT} (h : allT smallB t = true) : allT smallB (roundT r t) = true := round_all smallB (show smallB (exH 17 1) 1 = true by decide) h
theorem round_node {r : Int} {t : AT} (hr : 1 ≤ r) (h : allT nodeB t = true) : allT nodeB (roundT r t) = true := by
  refine round_all nodeB ?_ h
  have e1 : nodeB (exH 17 1) 1 = true := by decide
  unfold nodeB at e1 ⊢
  simp only [Bool.and_eq_true] at e1 ⊢
  refine ⟨⟨⟨⟨⟨e1.1.1.1.1.1, ?_⟩, e1.1.1.1.2⟩, e1.1.1.2⟩, e1.1.2⟩, e1.2⟩
  unfold Aterm.rhoOk
  have hk : (exH 17 r).h.k = 17 := rfl
  have hrr : (exH 17 r).rho = r := rfl
  rw [hk, hrr, if_neg (by decide), if_pos rfl]
  exact decide_eq_true hr
theorem round_wt (r : Int) (t : AT) : wt (roundT r t) = wt t + 1 := by unfold roundT; rw [Aterm.wt_ks]; simp only [AT.ks]; rw [Aterm.wts_cons, Aterm.wts_nil]
theorem round_parts (r : Int) (t : AT) : partsT (roundT r t) = [wOpen] ++ (([wRegion, digs r, wIn] ++ partsT t) ++ [wShut]) := by
  have hk : (exH 17 r).h.k = 17 := rfl
  have hr : (exH 17 r).rho = r := rfl
  have e : partsT (roundT r t) = comb (exH 17 r) (partsK [t]) := partsT_eq _
  have e2 : kw (partsK [t]) 0 = partsT t := by rw [partsK_map]; rfl
  rw [e]
  unfold comb inW
  simp only [hk, hr, e2, ↓reduceIte, Int.reduceEq]
set_option maxHeartbeats 800000 in
theorem round_text {r : Int} {t : AT} (hn : partsT t ≠ []) : ((((⟨#[40, 32, 114, 101, 103, 105, 111, 110, 32]⟩ : ByteArray) ++ digs r) ++ ⟨#[32, 105, 110, 32]⟩) ++ jb (partsT t)) ++ ⟨#[32, 41]⟩ = jb (partsT (roundT r t)) := by
  apply bl_inj
  rw [round_parts]
  simp [hn, bl_append, bl_app, bl_cons, bl_one, List.append_assoc]
  try simp [bl, wOpen, wShut, wRegion, wIn]
theorem round_walk (h : Hd) (v : V) (l : Nat) (t : AT) (r : Int) (W : World) (hT : AtIs W h v l t) (hr0 : 0 ≤ r ∧ r ≤ 1000) (hr1 : 1 ≤ r) (hm : allT nodeB t = true) (hs : allT smallB t = true) (hw : wt t ≤ 300) (hla : Laid W) :
    Calls Tryz.prog 10 #[.agg #[.int .u8 17, .int .u8 0, .int .i64 0, .int .i64 0, .string ⟨#[]⟩, .string ⟨#[]⟩, .string ⟨#[]⟩, .int .i64 r, .slice none 0 0, .slice none 0 0, .int .u8 0, .int .i64 0, .slice none 0 0, .slice none 0 0, .int .u8 0, .int .i64 0, .slice none 0 0, .slice none 0 0, .slice (some ⟨W.heap.size, 0, none⟩) 1 1]] (W.alloc (.cells #[.int .u8 h.h.k, .int .u8 h.h.op, .int .i64 h.h.pl, .int .i64 h.h.n, .string h.h.name, .string h.h.arg, .string h.h.exn, .int .i64 h.rho, .slice v.ra h.rhos.length v.rc, .slice v.ea h.e.length v.ec, .int .u8 h.ty.h.k, .int .i64 h.ty.h.r, .slice v.tea h.ty.h.e.length v.tec, .slice v.tka h.ty.ks.length v.tkc, .int .u8 h.re.h.k, .int .i64 h.re.h.r, .slice v.sea h.re.h.e.length v.sec, .slice v.ska h.re.ks.length v.skc, .slice v.ka l v.kc] 31)) fun e w' => e = .returned (.tuple #[.string (((((⟨#[40, 32, 114, 101, 103, 105, 111, 110, 32]⟩ : ByteArray) ++ digs r) ++ ⟨#[32, 105, 110, 32]⟩) ++ jb (partsT t)) ++ ⟨#[32, 41]⟩), .int .i64 0]) ∧ Below (W.heap.size + 1) (W.alloc (.cells #[.int .u8 h.h.k, .int .u8 h.h.op, .int .i64 h.h.pl, .int .i64 h.h.n, .string h.h.name, .string h.h.arg, .string h.h.exn, .int .i64 h.rho, .slice v.ra h.rhos.length v.rc, .slice v.ea h.e.length v.ec, .int .u8 h.ty.h.k, .int .i64 h.ty.h.r, .slice v.tea h.ty.h.e.length v.tec, .slice v.tka h.ty.ks.length v.tkc, .int .u8 h.re.h.k, .int .i64 h.re.h.r, .slice v.sea h.re.h.e.length v.sec, .slice v.ska h.re.ks.length v.skc, .slice v.ka l v.kc] 31)) w' := by
  have hmx := round_node (r := r) (t := t) hr1 hm
  obtain ⟨e3, e4⟩ := text_yes hmx
  have hX := text_walk (roundT r t) (exH 17 r) (exV (some ⟨W.heap.size, 0, none⟩) 1) 1 (W.alloc (.cells #[.int .u8 h.h.k, .int .u8 h.h.op, .int .i64 h.h.pl, .int .i64 h.h.n, .string h.h.name, .string h.h.arg, .string h.h.exn, .int .i64 h.rho, .slice v.ra h.rhos.length v.rc, .slice v.ea h.e.length v.ec, .int .u8 h.ty.h.k, .int .i64 h.ty.h.r, .slice v.tea h.ty.h.e.length v.tec, .slice v.tka h.ty.ks.length v.tkc, .int .u8 h.re.h.k, .int .i64 h.re.h.r, .slice v.sea h.re.h.e.length v.sec, .slice v.ska h.re.ks.length v.skc, .slice v.ka l v.kc] 31)) (ex_is (n := 0) (by decide) (k := 17) (rho := r) (p := some ⟨W.heap.size, 0, none⟩) (c := 1) (ts := [t]) (by decide) hr0 ⟨Nat.le_refl _, by unfold maxLen; show 1 ≤ _; omega⟩ (kids_new hT rfl)) (by rw [round_wt]; omega) (round_small hs) (hla.below (box_new _)).kw (hla.below (box_new _)).num (hla.below (box_new _)).sg
  unfold TermEnd at hX
  rw [e3, e4, ← round_text (ne_parts hm hs)] at hX
  refine Calls.mono hX ?_
  rintro e w' ⟨he, hb⟩
  exact ⟨he, hb.mono (by simp)⟩
set_option maxRecDepth 100000 in
set_option maxHeartbeats 12800000 in
theorem partsLaw_walk (h : Hd) (v : V) (l : Nat) (t : AT) (q : Int) (w : World) (hT : AtIs w h v l t) (hq : 0 ≤ q ∧ q ≤ 255) (hla : Laid w) :
    Calls Tryz.prog 6 #[.agg #[.int .u8 h.h.k, .int .u8 h.h.op, .int .i64 h.h.pl, .int .i64 h.h.n, .string h.h.name, .string h.h.arg, .string h.h.exn, .int .i64 h.rho, .slice v.ra h.rhos.length v.rc, .slice v.ea h.e.length v.ec, .int .u8 h.ty.h.k, .int .i64 h.ty.h.r, .slice v.tea h.ty.h.e.length v.tec, .slice v.tka h.ty.ks.length v.tkc, .int .u8 h.re.h.k, .int .i64 h.re.h.r, .slice v.sea h.re.h.e.length v.sec, .slice v.ska h.re.ks.length v.skc, .slice v.ka l v.kc], .int .u8 q] w fun e w' => e = .returned (.bool true) ∧ Below w.heap.size w w' := by
  have haw := fun (W : World) (hb : Below w.heap.size w W) => awake_walk W (hla.below hb)
  have hg1 := fun (W : World) (hb : Below w.heap.size w W) => great_walk t h v l W (hT.below hb)
  have HAW := Lib.hid haw; have HG1 := Lib.hid hg1; have HT := Lib.hid hT; have HLA := Lib.hid hla
  clear haw hg1 hT hla
  obtain ⟨hq0, hq1'⟩ := hq
  go_enter Tryz.func6, Tryz.ntmps6
  go_upto_region 1 with (fail)
  refine of_world (F := fun V => Below w.heap.size w V ∧ V.rangeAt w.heap.size 0 (acells h v l)) ⟨box_new _, row_new rfl⟩ ?_
  rintro W0 ⟨hb0, hr0⟩
  generalize hN1 : w.heap.size = N1 at hr0 ⊢
  have HN1 := Lib.hid hN1
  have HC0 := Lib.hid hb0; have HR0 := Lib.hid hr0
  clear hb0 hr0 hN1
  go_wp2_with (refine at_load rfl _ rfl N1 0 rfl HR0.out ?_)
  refine (HG1.out W0 HC0.out).mono ?_
  rintro e w1 ⟨rfl, hb1⟩
  have HC1 := Lib.hid (below_then HC0.out hb1 HC0.out.size); have HR1 := Lib.hid (range_below HR0.out hb1)
  clear hb1 HC0 HR0
  clear W0
  cases hq1 : greatT t
  case true =>
    go_wp2_with (fail)
    refine (HAW.out w1 HC1.out).mono ?_
    rintro e w2 ⟨rfl, hb2⟩
    have HC2 := Lib.hid (below_then HC1.out hb2 HC1.out.size)
    clear hb2
    go_wp2_with (fail)
    go_ret
    exact ⟨rfl, HC2.out⟩
  have hs1 := small_of hq1
  clear hq1
  have hall := fun (W : World) (hb : Below w.heap.size w W) => refAll_walk (wt t) t h v l w W (Nat.le_refl _) (by omega) HT.out hb
  have hd := fun (W : World) (hb : Below w.heap.size w W) => refMayA_walk t h v l W (HT.out.below hb) (by omega) hs1.2
  have hme := may_small (t := t) (by omega)
  have hw400 : (wt t : Int) ≤ 400 := by omega
  have HALL := Lib.hid hall; have HD := Lib.hid hd; have HME := Lib.hid hme; have HS1 := Lib.hid hs1
  clear hall hd hme hs1
  go_wp2_with (first | refine at_load rfl _ rfl N1 0 rfl HR1.out ?_ | refine at_load_g (by rfl) _ rfl N1 0 rfl HR1.out ?_)
  refine (HALL.out w1 HC1.out).mono ?_
  rintro e w2 ⟨g, c2, xs, rfl, -, -, hb2⟩
  have HC2 := Lib.hid (below_then HC1.out hb2 HC1.out.size); have HR2 := Lib.hid (range_below HR1.out hb2)
  clear hb2
  by_cases h300 : 300 < wt t
  · have h3 : (300 : Int) < (wt t : Int) := by omega
    have g3 : decide ((300 : Int) < (wt t : Int)) = true := decide_eq_true h3
    clear h300
    generalize wt t = nn at *
    go_wp2_with (fail)
    refine (HAW.out w2 HC2.out).mono ?_
    rintro e w5 ⟨rfl, hb5⟩
    have HC5 := Lib.hid (below_then HC2.out hb5 HC2.out.size)
    clear hb5
    go_wp2_with (fail)
    go_ret
    exact ⟨rfl, HC5.out⟩
  have h3 : ¬ (300 : Int) < (wt t : Int) := by omega
  have H300 := Lib.hid (show wt t ≤ 300 by omega)
  clear h300
  obtain ⟨nn, hnn⟩ : ∃ nn, nn = wt t := ⟨_, rfl⟩
  rw [← hnn] at h3 hw400 ⊢
  have g3 : decide ((300 : Int) < (nn : Int)) = false := decide_eq_false h3
  have HNN := Lib.hid hnn
  clear hnn
  go_wp2_with (first | refine at_load rfl _ rfl N1 0 rfl HR2.out ?_ | refine at_load_g (by rfl) _ rfl N1 0 rfl HR2.out ?_)
  refine (HD.out w2 HC2.out).mono ?_
  rintro e w3 ⟨rfl, hb3⟩
  have HC3 := Lib.hid (below_then HC2.out hb3 HC2.out.size); have HR3 := Lib.hid (range_below HR2.out hb3)
  clear hb3
  rw [HME.out]
  cases hm : allT nodeB t
  · clear hm
    go_wp2_with (fail)
    refine (HAW.out w3 HC3.out).mono ?_
    rintro e w5 ⟨rfl, hb5⟩
    have HC5 := Lib.hid (below_then HC3.out hb5 HC3.out.size)
    clear hb5
    go_wp2_with (fail)
    go_ret
    exact ⟨rfl, HC5.out⟩
  obtain ⟨e1, e2⟩ := text_yes hm
  have hp := fun (W : World) (hb : Below w.heap.size w W) => text_walk t h v l W (HT.out.below hb) (by have := H300.out; omega) HS1.out.2 (HLA.out.below hb).kw (HLA.out.below hb).num (HLA.out.below hb).sg
  unfold TermEnd at hp
  rw [e1, e2] at hp
  have hr0 : 0 ≤ 1 + q ∧ 1 + q ≤ 1000 := by omega
  have hX := fun (W : World) (hb : Below w.heap.size w W) => round_walk h v l t (1 + q) W (HT.out.below hb) hr0 (by omega) hm HS1.out.2 H300.out (HLA.out.below hb)
  have hsz := (text_small hm HS1.out.2 (at_rng HT.out) (by have := H300.out; omega)).1
  have hdz := Effect.digs_size (1 + q) (by omega) (by omega)
  have hdg := fun W => Effect.refDigits_walk (1 + q) (by omega) (by omega) W
  have z1 : (⟨#[40, 32, 114, 101, 103, 105, 111, 110, 32]⟩ : ByteArray).size = 9 := rfl
  have z2 : (⟨#[32, 105, 110, 32]⟩ : ByteArray).size = 4 := rfl
  have z3 : (⟨#[32, 41]⟩ : ByteArray).size = 2 := rfl
  have ha0 := add_run (⟨#[40, 32, 114, 101, 103, 105, 111, 110, 32]⟩ : ByteArray) (digs (1 + q)) _ rfl (by simp only [ByteArray.size_append]; omega)
  have ha1 := add_run ((⟨#[40, 32, 114, 101, 103, 105, 111, 110, 32]⟩ : ByteArray) ++ digs (1 + q)) ⟨#[32, 105, 110, 32]⟩ _ rfl (by simp only [ByteArray.size_append]; omega)
  have ha2 := add_run (((⟨#[40, 32, 114, 101, 103, 105, 111, 110, 32]⟩ : ByteArray) ++ digs (1 + q)) ++ ⟨#[32, 105, 110, 32]⟩) (jb (partsT t)) _ rfl (by simp only [ByteArray.size_append]; omega)
  have ha3 := add_run ((((⟨#[40, 32, 114, 101, 103, 105, 111, 110, 32]⟩ : ByteArray) ++ digs (1 + q)) ++ ⟨#[32, 105, 110, 32]⟩) ++ jb (partsT t)) ⟨#[32, 41]⟩ _ rfl (by simp only [ByteArray.size_append]; omega)
  have HP := Lib.hid hp; have HX := Lib.hid hX; have HDG := Lib.hid hdg
  clear hp hX hdg e1 e2 hsz hdz z1 z2 z3 hr0 hm
  change Hid (∀ W, Calls Tryz.prog 19 #[.int .i64 (1 + q)] W fun e w' => e = .returned (.string (digs (1 + q))) ∧ Below W.heap.size W w') at HDG
  generalize jb (partsT t) = J at *
  generalize digs (1 + q) = D at *
  generalize ((⟨#[40, 32, 114, 101, 103, 105, 111, 110, 32]⟩ : ByteArray) ++ D) = X0 at *
  generalize (X0 ++ (⟨#[32, 105, 110, 32]⟩ : ByteArray)) = X1 at *
  generalize (X1 ++ J) = X2 at *
  generalize (X2 ++ (⟨#[32, 41]⟩ : ByteArray)) = X3 at *
  have hss := str_self2 X3
  go_wp2_with (first | refine at_load rfl _ rfl N1 0 rfl HR3.out ?_ | refine at_load_g (by rfl) _ rfl N1 0 rfl HR3.out ?_)
  refine (HP.out w3 HC3.out).mono ?_
  rintro e w4 ⟨rfl, hb4⟩
  have HC4 := Lib.hid (below_then HC3.out hb4 HC3.out.size); have HR4 := Lib.hid (range_below HR3.out hb4)
  clear hb4
  go_wp2_with (first | refine at_load rfl _ rfl N1 0 rfl HR4.out ?_ | refine at_load_g (by rfl) _ rfl N1 0 rfl HR4.out ?_)
  refine (HX.out w4 HC4.out).mono ?_
  rintro e w5 ⟨rfl, hb5⟩
  have HC5 := Lib.hid (below_then (below_then HC4.out (box_new _) HC4.out.size) (hb5.mono (by simp)) (Nat.le_trans HC4.out.size (by simp)))
  clear hb5
  go_wp2_with (fail)
  refine (HDG.out w5).mono ?_
  rintro e w6 ⟨rfl, hb6⟩
  have HC6 := Lib.hid (below_then HC5.out hb6 HC5.out.size)
  clear hb6
  go_wp2_with (fail)
  refine (HAW.out w6 HC6.out).mono ?_
  rintro e w7 ⟨rfl, hb7⟩
  have HC7 := Lib.hid (below_then HC6.out hb7 HC6.out.size)
  clear hb7
  go_wp2_with (fail)
  go_ret
  exact ⟨rfl, HC7.out⟩
end Disp
end Go.Proofs.YtfncpcijfphngaaGreatDoor
