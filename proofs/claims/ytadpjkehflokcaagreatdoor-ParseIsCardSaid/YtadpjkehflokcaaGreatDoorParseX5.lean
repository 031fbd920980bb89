/- The document's Same: a program is the same as itself, wherever it lies. (Written by wip/tools/dsame.py.) -/
import Derived.Test.YtadpjkehflokcaaGreatDoorParseX4
import Derived.Test.YtadpjkehflokcaaGreatDoorTokenSame
import Derived.Test.YtadpjkehflokcaaGreatDoorGTokA
namespace Go.Proofs.YtadpjkehflokcaaGreatDoor
open Go.RowKit
set_option linter.unusedVariables false
set_option linter.unusedSimpArgs false
namespace Parse
open Term (Tm Hd TmIs Flat tcells veil Reads HdOk Kids sameT sameK sameH flatT tget ret_bool)
open Token (Tok tel ToksAt)

/-- A slice of tokens, empty or not. -/
def ToksV (w : World) (q : Option Addr) (m : Nat) (es : List Tok) : Prop := es.length = m ∧ (m = 0 ∨ ∃ g, q = some ⟨g, 0, none⟩ ∧ ToksAt w g es)
theorem ToksV.below {w W : World} {q : Option Addr} {m : Nat} {es : List Tok} (h : ToksV w q m es) (hb : Below w.heap.size w W) : ToksV W q m es :=
  ⟨h.1, h.2.imp id fun ⟨g, e, k⟩ => ⟨g, e, k.below hb⟩⟩
theorem ToksV.of_own {w : World} {B : Nat} {q : Option Addr} {m d : Nat} {es : List Tok} (h : w.ownsRow B 46 3 (.slice q m d) es.length (Token.tcells es)) : ToksV w q m es := by
  have hm : m = es.length := by
    rcases h.2 with ⟨e, h1⟩ | ⟨g, cap, cur, e, h1⟩
    · injection e with e1 e2 e3; rw [e2, h1]
    · injection e with e1 e2 e3
  refine ⟨hm.symm, ?_⟩
  by_cases h0 : es.length = 0
  · exact .inl (by omega)
  · obtain ⟨g, c, e, ht, _, _⟩ := Token.toks_of_own h (by omega)
    injection e with e1 e2 e3
    exact .inr ⟨g, e1, ht⟩
theorem ToksV.zero (w : World) : ToksV w none 0 [] := ⟨rfl, .inl rfl⟩
theorem sameToks (es : List Tok) (q q' : Option Addr) (m m' d d' : Nat) (w : World) (hn : es.length ≤ 100000) (h : ToksV w q m es) (h' : ToksV w q' m' es) :
    Calls Tryz.prog 27 #[.slice q m d, .slice q' m' d'] w fun e w' => e = .returned (.bool true) ∧ Below w.heap.size w w' := by
  obtain ⟨rfl, h⟩ := h
  obtain ⟨rfl, h'⟩ := h'
  rcases h with h | ⟨g, rfl, k⟩
  · rw [h]; exact Token.same_none q q' d d' w
  · rcases h' with h' | ⟨g', rfl, k'⟩
    · rw [h']; exact Token.same_none _ _ _ _ w
    · exact Token.same_toks g g' d d' es w hn k k'
theorem cells9x {W : World} {N : Nat} {a0 a1 a2 a3 a4 a5 a6 a7 a8 : Value} {ty : TypeId} (h : W.heap[N]? = some (.cells #[a0, a1, a2, a3, a4, a5, a6, a7, a8] ty (0, 0))) :
    (W.cell? ⟨N, 0, none⟩ = some a0 ∧ W.cell? ⟨N, 1, none⟩ = some a1 ∧ W.cell? ⟨N, 2, none⟩ = some a2 ∧ W.cell? ⟨N, 3, none⟩ = some a3 ∧ W.cell? ⟨N, 4, none⟩ = some a4 ∧ W.cell? ⟨N, 5, none⟩ = some a5 ∧ W.cell? ⟨N, 6, none⟩ = some a6 ∧ W.cell? ⟨N, 7, none⟩ = some a7 ∧ W.cell? ⟨N, 8, none⟩ = some a8) := by
  simp [World.cell?, h]
set_option maxRecDepth 100000 in
set_option maxHeartbeats 25600000 in
theorem sameD_walk (es : List Tok) (t : Tm) (q q' : Option Addr) (m m' d d' : Nat) (h h' : Hd) (p p' : Option Addr) (l c l' c' : Nat) (w : World) (hE : ToksV w q m es) (hE' : ToksV w q' m' es) (hn : es.length ≤ 100000) (hT : TmIs w h p l c t) (hU : TmIs w h' p' l' c' t) (hw : Term.wt t ≤ 4000) :
    Calls Tryz.prog 10 #[.agg #[.slice q m d, .int .u8 h.k, .int .u8 h.op, .int .i64 h.pl, .int .i64 h.n, .string h.name, .string h.arg, .string h.exn, .slice p l c], .agg #[.slice q' m' d', .int .u8 h'.k, .int .u8 h'.op, .int .i64 h'.pl, .int .i64 h'.n, .string h'.name, .string h'.arg, .string h'.exn, .slice p' l' c']] w fun e w' => e = .returned (.bool true) ∧ Below w.heap.size w w' := by
  obtain ⟨W, hW⟩ : ∃ W, W = (w.alloc (.cells #[.slice q m d, .int .u8 h.k, .int .u8 h.op, .int .i64 h.pl, .int .i64 h.n, .string h.name, .string h.arg, .string h.exn, .slice p l c] 31)).alloc (.cells #[.slice q' m' d', .int .u8 h'.k, .int .u8 h'.op, .int .i64 h'.pl, .int .i64 h'.n, .string h'.name, .string h'.arg, .string h'.exn, .slice p' l' c'] 31) := ⟨_, rfl⟩
  have hbW : Below w.heap.size w W := by rw [hW]; exact (al_n w _).trans ((al_n _ _).mono (by simp))
  have hs := sameToks es q q' m m' d d' W hn (hE.below hbW) (hE'.below hbW)
  have h1 := fun V (hb : Below W.heap.size W V) => equalD_walk t h h' p p' l c l' c' V ((hT.below hbW).below hb) ((hU.below hbW).below hb) hw
  have hx1 : W.heap[w.heap.size]? = some (.cells #[.slice q m d, .int .u8 h.k, .int .u8 h.op, .int .i64 h.pl, .int .i64 h.n, .string h.name, .string h.arg, .string h.exn, .slice p l c] 31 (0, 0)) := by rw [hW, Below.heap_alloc _ _ _ (by simp)]; exact heap_alloc_new w _
  have hx2 : W.heap[w.heap.size + 1]? = some (.cells #[.slice q' m' d', .int .u8 h'.k, .int .u8 h'.op, .int .i64 h'.pl, .int .i64 h'.n, .string h'.name, .string h'.arg, .string h'.exn, .slice p' l' c'] 31 (0, 0)) := by
    have e : (w.alloc (.cells #[.slice q m d, .int .u8 h.k, .int .u8 h.op, .int .i64 h.pl, .int .i64 h.n, .string h.name, .string h.arg, .string h.exn, .slice p l c] 31)).heap.size = w.heap.size + 1 := by simp
    rw [hW, ← e]; exact heap_alloc_new _ _
  rw [hW] at hs
  have HS := Lib.hid hs; have H1 := Lib.hid h1; have HX1 := Lib.hid hx1; have HX2 := Lib.hid hx2; have HBW := Lib.hid hbW; have HW := Lib.hid hW
  clear hT hU hs h1 hx1 hx2 hbW hw hE hE' hn
  go_enter Tryz.func10, Tryz.ntmps10
  go_wp2_with (fail)
  refine HS.out.mono ?_
  rintro e w1 ⟨rfl, hb1⟩
  rw [← HW.out] at hb1
  have HB1 := Lib.hid hb1
  obtain ⟨g0, g1, g2, g3, g4, g5, g6, g7, g8⟩ := cells9x ((hb1.block _ (lt_of_block HX1.out)).trans HX1.out)
  obtain ⟨k0, k1, k2, k3, k4, k5, k6, k7, k8⟩ := cells9x ((hb1.block _ (lt_of_block HX2.out)).trans HX2.out)
  clear hb1 HS
  go_wp2_with (fail)
  refine (H1.out _ HB1.out).mono ?_
  rintro e w2 ⟨rfl, hb2⟩
  have HB2 := Lib.hid (HBW.out.trans ((HB1.out.trans (hb2.mono HB1.out.size)).mono HBW.out.size))
  clear hb2 g0 g1 g2 g3 g4 g5 g6 g7 g8 k0 k1 k2 k3 k4 k5 k6 k7 k8
  go_wp2
  go_ret
  exact ⟨rfl, HB2.out⟩
end Parse
end Go.Proofs.YtadpjkehflokcaaGreatDoor
