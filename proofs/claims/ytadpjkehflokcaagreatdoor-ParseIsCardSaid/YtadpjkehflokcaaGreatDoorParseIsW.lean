/- ParseIs: the program's reading is the document's. (Written by wip/tools/parseis.py.) -/
import Derived.Test.YtadpjkehflokcaaGreatDoorParseX2
import Derived.Test.YtadpjkehflokcaaGreatDoorParseX3
import Derived.Test.YtadpjkehflokcaaGreatDoorParseX5
import Derived.Test.YtadpjkehflokcaaGreatDoorParsePr3
import Derived.Test.YtadpjkehflokcaaGreatDoorParseTup
import Derived.Test.YtadpjkehflokcaaGreatDoorParseAwake
namespace Go.Proofs.YtadpjkehflokcaaGreatDoor
open Go.RowKit
set_option linter.unusedVariables false
set_option linter.unusedSimpArgs false
namespace Parse
open Term (Tm Hd TmIs Flat tcells veil Reads HdOk Kids ret_bool)
open Token (Tok tel ToksAt BytesIn lex endT)

def qA : QRes → Int | .bad a _ => a | .good _ _ => 0
def qK : QRes → Int | .bad _ k => k | .good _ _ => 0
def qE : QRes → List Tok | .bad _ _ => [] | .good es _ => es
def qT : QRes → Tm | .bad _ _ => .node ⟨0, 0, 0, 0, ⟨#[]⟩, ⟨#[]⟩, ⟨#[]⟩⟩ [] | .good _ t => t
def pA : PRes → Int | .bad a _ => a | .good _ => 0
def pK : PRes → Int | .bad _ k => k | .good _ => 0
def pT : PRes → Tm | .bad _ _ => .node ⟨0, 0, 0, 0, ⟨#[]⟩, ⟨#[]⟩, ⟨#[]⟩⟩ [] | .good t => t
theorem zero_tm (w : World) : TmIs w ⟨0, 0, 0, 0, ⟨#[]⟩, ⟨#[]⟩, ⟨#[]⟩⟩ none 0 0 (.node ⟨0, 0, 0, 0, ⟨#[]⟩, ⟨#[]⟩, ⟨#[]⟩⟩ []) :=
  ⟨rfl, rfl, ⟨⟨by decide, by decide⟩, ⟨by decide, by decide⟩, ⟨by decide, by decide⟩, ⟨by decide, by decide⟩, by unfold maxLen; decide, by unfold maxLen; decide, by unfold maxLen; decide⟩, ⟨Nat.le_refl _, Nat.zero_le _⟩, .nokids _⟩
/-- Both ways of an ending in one. -/
theorem ProgRet.one {res : QRes} {w w' : World} {e : Ending} (h : ProgRet res w e w') :
    Below w.heap.size w w' ∧ ∃ q m d h p l c, e = .returned (.tuple #[.agg #[.slice q m d, .int .u8 h.k, .int .u8 h.op, .int .i64 h.pl, .int .i64 h.n, .string h.name, .string h.arg, .string h.exn, .slice p l c], .int .i64 (qA res), .int .i64 (qK res)]) ∧ ToksV w' q m (qE res) ∧ TmIs w' h p l c (qT res) := by
  obtain ⟨hb, ⟨a, k, rfl, rfl⟩ | ⟨es, t, q, m, d0, h, p, l, d, rfl, rfl, ho, hT⟩⟩ := h
  · exact ⟨hb, none, 0, 0, ⟨0, 0, 0, 0, ⟨#[]⟩, ⟨#[]⟩, ⟨#[]⟩⟩, none, 0, 0, rfl, ToksV.zero _, zero_tm _⟩
  · exact ⟨hb, q, m, d0, h, p, l, d, rfl, ToksV.of_own ho, hT.reads' (Term.veil_reads _ _)⟩
theorem TermRet.one {res : PRes} {w w' : World} {e : Ending} (h : TermRet res w e w') :
    Below w.heap.size w w' ∧ ∃ h p l c, e = .returned (.tuple #[.agg #[.int .u8 h.k, .int .u8 h.op, .int .i64 h.pl, .int .i64 h.n, .string h.name, .string h.arg, .string h.exn, .slice p l c], .int .i64 (pA res), .int .i64 (pK res)]) ∧ TmIs w' h p l c (pT res) := by
  obtain ⟨hb, ⟨a, k, rfl, rfl⟩ | ⟨t, h, p, l, d, rfl, rfl, hT⟩⟩ := h
  · exact ⟨hb, ⟨0, 0, 0, 0, ⟨#[]⟩, ⟨#[]⟩, ⟨#[]⟩⟩, none, 0, 0, rfl, zero_tm _⟩
  · exact ⟨hb, h, p, l, d, rfl, hT.reads' (Term.veil_reads _ _)⟩
theorem small_prog {xs : List Int} (hx : xs.length ≤ 2000) : Term.wt (qT (progRes xs)) ≤ 4000 ∧ (qE (progRes xs)).length ≤ 100000 := by
  cases h : progRes xs with
  | bad a k => exact ⟨by show Term.wt (.node _ []) ≤ 4000; rw [Term.wt_ks]; show Term.wts [] + 1 ≤ 4000; rw [Term.wts_nil]; omega, by show (0 : Nat) ≤ _; omega⟩
  | good es t =>
    obtain ⟨ts, _, hl, _, _, hw, _⟩ := prog_good (by omega) h
    exact ⟨by show Term.wt t ≤ 4000; omega, by show es.length ≤ 100000; omega⟩
theorem small_term {xs : List Int} (hx : xs.length ≤ 2000) : Term.wt (pT (termRes xs)) ≤ 4000 := by
  cases h : termRes xs with
  | bad a k => show Term.wt (.node _ []) ≤ 4000; rw [Term.wt_ks]; show Term.wts [] + 1 ≤ 4000; rw [Term.wts_nil]; omega
  | good t =>
    obtain ⟨ts, _, hl, _, _, hw, _⟩ := prog_good (by omega) (prog_alone h)
    show Term.wt t ≤ 4000
    omega
theorem al_box (W : World) (O : Obj) : Below W.heap.size W (W.alloc O) := (Below.refl _ _).alloc (Nat.le_refl _) O
set_option maxRecDepth 100000 in
set_option maxHeartbeats 51200000 in
theorem parseIs_walk (p : Option Addr) (n d : Nat) (xs : List Int) (w : World) (hb : BytesIn w p n d xs) (hl : Words.Laid2 w) :
    Calls Tryz.prog 3 #[.slice p n d] w fun e w' => e = .returned (.bool true) ∧ Below w.heap.size w w' := by
  have hnl := hb.len.1
  have hxn := hb.1
  have HB := Lib.hid hb; have HL := Lib.hid hl; have HXN := Lib.hid hxn
  clear hb hl hxn
  by_cases hbig : 2000 < n
  · have hbi : (2000 : Int) < (n : Int) := by omega
    go_enter Tryz.func3, Tryz.ntmps3
    go_wp2_with (fail)
    refine (awake_walk _ HL.out).mono ?_
    rintro e w1 ⟨rfl, hb⟩
    have HB1 := Lib.hid hb; clear hb
    go_wp2
    go_ret
    exact ⟨rfl, HB1.out⟩
  have hx2 : xs.length ≤ 2000 := by have := HXN.out; omega
  have hp1 := fun W (hb : Below w.heap.size w W) => parseProg_mid p n d xs W (HB.out.below hb) (HL.out.below hb) (by omega) (few_toks (by omega))
  have hp2 := fun W (hb : Below w.heap.size w W) => parseD_walk p n d xs W (HB.out.below hb) (fun ts h => Nat.succ_le_succ (few_toks (xs := xs) (by omega) ts h))
  have hp3 := fun W (hb : Below w.heap.size w W) => parseTerm_walk p n d xs W (HB.out.below hb) (HL.out.below hb) (by omega)
  have hp4 := fun W (hb : Below w.heap.size w W) => termD_walk p n d xs W (HB.out.below hb) (fun ts h => Nat.succ_le_succ (few_toks (xs := xs) (by omega) ts h))
  obtain ⟨hs1, hs2⟩ := small_prog hx2
  have hs3 := small_term hx2
  generalize progRes xs = R at *
  generalize termRes xs = S at *
  have H1 := Lib.hid hp1; have H2 := Lib.hid hp2; have H3 := Lib.hid hp3; have H4 := Lib.hid hp4; have HS1 := Lib.hid hs1; have HS2 := Lib.hid hs2; have HS3 := Lib.hid hs3
  have hbi : ¬ (2000 : Int) < (n : Int) := by omega
  clear hp1 hp2 hp3 hp4 hs1 hs2 hs3 hbig hx2
  go_enter Tryz.func3, Tryz.ntmps3
  go_wp2_with (fail)
  refine (H1.out _ (Below.refl _ _)).mono ?_
  intro e w1 he
  obtain ⟨hb1, q1, m1, d1, h1, p1, l1, c1, rfl, hE1, hT1⟩ := he.one
  clear he
  have HW1 := Lib.hid (hb1.trans ((al_box w1 (.cells #[.slice q1 m1 d1, .int .u8 h1.k, .int .u8 h1.op, .int .i64 h1.pl, .int .i64 h1.n, .string h1.name, .string h1.arg, .string h1.exn, .slice p1 l1 c1] 31)).mono hb1.size))
  have HX1 := Lib.hid (heap_alloc_new w1 (.cells #[.slice q1 m1 d1, .int .u8 h1.k, .int .u8 h1.op, .int .i64 h1.pl, .int .i64 h1.n, .string h1.name, .string h1.arg, .string h1.exn, .slice p1 l1 c1] 31))
  have HE1 := Lib.hid (hE1.below (al_box w1 (.cells #[.slice q1 m1 d1, .int .u8 h1.k, .int .u8 h1.op, .int .i64 h1.pl, .int .i64 h1.n, .string h1.name, .string h1.arg, .string h1.exn, .slice p1 l1 c1] 31))); have HT1 := Lib.hid (hT1.below (al_box w1 (.cells #[.slice q1 m1 d1, .int .u8 h1.k, .int .u8 h1.op, .int .i64 h1.pl, .int .i64 h1.n, .string h1.name, .string h1.arg, .string h1.exn, .slice p1 l1 c1] 31)))
  clear hb1 hE1 hT1
  go_wp2_with (fail)
  refine (H2.out _ HW1.out).mono ?_
  intro e w2 he
  obtain ⟨hb2, q2, m2, d2, h2, p2, l2, c2, rfl, hE2, hT2⟩ := he.one
  clear he
  have HN2 := Lib.hid (hb2.trans ((al_box w2 (.cells #[.slice q2 m2 d2, .int .u8 h2.k, .int .u8 h2.op, .int .i64 h2.pl, .int .i64 h2.n, .string h2.name, .string h2.arg, .string h2.exn, .slice p2 l2 c2] 31)).mono hb2.size))
  have HW2 := Lib.hid (HW1.out.trans (HN2.out.mono HW1.out.size))
  have HX12 := Lib.hid ((HN2.out.block _ (lt_of_block HX1.out)).trans HX1.out); have HX2 := Lib.hid (heap_alloc_new w2 (.cells #[.slice q2 m2 d2, .int .u8 h2.k, .int .u8 h2.op, .int .i64 h2.pl, .int .i64 h2.n, .string h2.name, .string h2.arg, .string h2.exn, .slice p2 l2 c2] 31))
  have HE12 := Lib.hid (HE1.out.below HN2.out); have HT12 := Lib.hid (HT1.out.below HN2.out)
  have HE2 := Lib.hid (hE2.below (al_box w2 (.cells #[.slice q2 m2 d2, .int .u8 h2.k, .int .u8 h2.op, .int .i64 h2.pl, .int .i64 h2.n, .string h2.name, .string h2.arg, .string h2.exn, .slice p2 l2 c2] 31))); have HT2 := Lib.hid (hT2.below (al_box w2 (.cells #[.slice q2 m2 d2, .int .u8 h2.k, .int .u8 h2.op, .int .i64 h2.pl, .int .i64 h2.n, .string h2.name, .string h2.arg, .string h2.exn, .slice p2 l2 c2] 31)))
  clear hb2 hE2 hT2 HE1 HT1 HX1 HW1
  go_wp2_with (fail)
  refine (H3.out _ HW2.out).mono ?_
  intro e w3 he
  obtain ⟨hb3, h3, p3, l3, c3, rfl, hT3⟩ := he.one
  clear he
  have HN3 := Lib.hid (hb3.trans ((al_box w3 (.cells #[.int .u8 h3.k, .int .u8 h3.op, .int .i64 h3.pl, .int .i64 h3.n, .string h3.name, .string h3.arg, .string h3.exn, .slice p3 l3 c3] 29)).mono hb3.size))
  have HW3 := Lib.hid (HW2.out.trans (HN3.out.mono HW2.out.size))
  have HX13 := Lib.hid ((HN3.out.block _ (lt_of_block HX12.out)).trans HX12.out); have HX23 := Lib.hid ((HN3.out.block _ (lt_of_block HX2.out)).trans HX2.out); have HX3 := Lib.hid (heap_alloc_new w3 (.cells #[.int .u8 h3.k, .int .u8 h3.op, .int .i64 h3.pl, .int .i64 h3.n, .string h3.name, .string h3.arg, .string h3.exn, .slice p3 l3 c3] 29))
  have HE13 := Lib.hid (HE12.out.below HN3.out); have HT13 := Lib.hid (HT12.out.below HN3.out); have HE23 := Lib.hid (HE2.out.below HN3.out); have HT23 := Lib.hid (HT2.out.below HN3.out)
  have HT3 := Lib.hid (hT3.below (al_box w3 (.cells #[.int .u8 h3.k, .int .u8 h3.op, .int .i64 h3.pl, .int .i64 h3.n, .string h3.name, .string h3.arg, .string h3.exn, .slice p3 l3 c3] 29)))
  clear hb3 hT3 HE12 HT12 HX12 HE2 HT2 HX2 HW2 HN2
  go_wp2_with (fail)
  refine (H4.out _ HW3.out).mono ?_
  intro e w4 he
  obtain ⟨hb4, h4, p4, l4, c4, rfl, hT4⟩ := he.one
  clear he
  obtain ⟨W, hW⟩ : ∃ W, W = w4.alloc (.cells #[.int .u8 h4.k, .int .u8 h4.op, .int .i64 h4.pl, .int .i64 h4.n, .string h4.name, .string h4.arg, .string h4.exn, .slice p4 l4 c4] 29) := ⟨_, rfl⟩
  have hn4 := hb4.trans ((al_box w4 (.cells #[.int .u8 h4.k, .int .u8 h4.op, .int .i64 h4.pl, .int .i64 h4.n, .string h4.name, .string h4.arg, .string h4.exn, .slice p4 l4 c4] 29)).mono hb4.size)
  rw [← hW] at hn4
  have hw4 := HW3.out.trans (hn4.mono HW3.out.size)
  have hx4 := heap_alloc_new w4 (.cells #[.int .u8 h4.k, .int .u8 h4.op, .int .i64 h4.pl, .int .i64 h4.n, .string h4.name, .string h4.arg, .string h4.exn, .slice p4 l4 c4] 29)
  have ht4 := hT4.below (al_box w4 (.cells #[.int .u8 h4.k, .int .u8 h4.op, .int .i64 h4.pl, .int .i64 h4.n, .string h4.name, .string h4.arg, .string h4.exn, .slice p4 l4 c4] 29))
  rw [← hW] at hx4 ht4
  have hx1 := (hn4.block _ (lt_of_block HX13.out)).trans HX13.out
  have hx2 := (hn4.block _ (lt_of_block HX23.out)).trans HX23.out
  have hx3 := (hn4.block _ (lt_of_block HX3.out)).trans HX3.out
  have hsm := fun V (hb : Below W.heap.size W V) => sameD_walk (qE R) (qT R) q1 q2 m1 m2 d1 d2 h1 h2 p1 p2 l1 c1 l2 c2 V ((HE13.out.below hn4).below hb) ((HE23.out.below hn4).below hb) HS2.out ((HT13.out.below hn4).below hb) ((HT23.out.below hn4).below hb) HS1.out
  have heq := fun V (hb : Below W.heap.size W V) => equalD_walk (pT S) h3 h4 p3 p4 l3 c3 l4 c4 V ((HT3.out.below hn4).below hb) (ht4.below hb) HS3.out
  have haw := fun V (hb : Below w.heap.size w V) => awake_walk V (HL.out.below hb)
  obtain ⟨⟨a0, a1, a2, a3, a4, a5, a6, a7, a8⟩⟩ : Nonempty _ := ⟨cells9x hx1⟩
  obtain ⟨⟨b0, b1, b2, b3, b4, b5, b6, b7, b8⟩⟩ : Nonempty _ := ⟨cells9x hx2⟩
  have HX3 := Lib.hid hx3; have HX4 := Lib.hid hx4; have HW4 := Lib.hid hw4; have HSM := Lib.hid hsm; have HEQ := Lib.hid heq; have HAW := Lib.hid haw
  clear hx1 hx2 hx3 hx4 hw4 hn4 ht4 hT4 hb4 hsm heq haw HX13 HX23 HE13 HE23 HT13 HT23 HT3 HW3 HN3
  rw [hW] at a0 a1 a2 a3 a4 a5 a6 a7 a8 b0 b1 b2 b3 b4 b5 b6 b7 b8
  go_wp2_with (fail)
  rw [← hW]
  refine (HSM.out _ (Below.refl _ _)).mono ?_
  rintro e v1 ⟨rfl, hv1⟩
  have HV1 := Lib.hid hv1
  obtain ⟨⟨x0, x1, x2, x3, x4, x5, x6, x7⟩, -⟩ := cells8' ((hv1.block _ (lt_of_block HX3.out)).trans HX3.out)
  obtain ⟨⟨y0, y1, y2, y3, y4, y5, y6, y7⟩, -⟩ := cells8' ((hv1.block _ (lt_of_block HX4.out)).trans HX4.out)
  clear hv1 a0 a1 a2 a3 a4 a5 a6 a7 a8 b0 b1 b2 b3 b4 b5 b6 b7 b8
  go_wp2_with (fail)
  refine (HEQ.out _ HV1.out).mono ?_
  rintro e v2 ⟨rfl, hv2⟩
  have HV2 := Lib.hid (HV1.out.trans (hv2.mono HV1.out.size))
  have HU2 := Lib.hid (HW4.out.trans (HV2.out.mono HW4.out.size))
  clear hv2 x0 x1 x2 x3 x4 x5 x6 x7 y0 y1 y2 y3 y4 y5 y6 y7
  go_wp2_with (fail)
  refine (HAW.out _ HU2.out).mono ?_
  rintro e v3 ⟨rfl, hv3⟩
  have HV3 := Lib.hid (HU2.out.trans (hv3.mono HU2.out.size))
  clear hv3
  go_wp2
  go_ret
  exact ⟨rfl, HV3.out⟩
end Parse
end Go.Proofs.YtadpjkehflokcaaGreatDoor
