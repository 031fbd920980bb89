/-The walk of the program's writer: typ. (Written by wip/tools/rttyp.py.) The walk of the program's Text of types with regions. (Written by wip/tools/rttyp.py.) -/
import Derived.Test.YtabegjpledammaaGreatDoorGC11
namespace Go.Proofs.YtabegjpledammaaGreatDoor
open Go.RowKit
set_option linter.unusedVariables false
set_option linter.unusedSimpArgs false
namespace Rt
open Effect (At AtOk AtsAt Rd ofA ret_i64 ret_bool lt_of_block heap_alloc_new textE digs NumLaid)
open Types (wInt wOpen wShut wStar wRef wArrow)

/-- While a type is written: the words so far, what has been turned, and the type's own box. -/
def St (N : Nat) (w : World) (O : Obj) (ss : List ByteArray) (W : World) : Prop := WAt N ss W ∧ Wrote N w W ∧ W.heap[w.heap.size]? = some O
theorem St.start {N : Nat} {w : World} {ss : List ByteArray} (O : Obj) (h : WAt N ss w) : St N w O ss (w.alloc O) := ⟨h.alloc O, (Wrote.refl N w).alloc O, heap_alloc_new w O⟩
theorem St.alloc {N : Nat} {w W : World} {O : Obj} {ss : List ByteArray} (h : St N w O ss W) (O' : Obj) : St N w O ss (W.alloc O') := ⟨h.1.alloc O', h.2.1.alloc O', (Below.heap_alloc _ _ _ (lt_of_block h.2.2)).trans h.2.2⟩
theorem not_strs {cs : Array Value} {fz : Nat × Nat} : ¬ IsStrs (some (.cells cs 25 fz)) := by
  rintro ⟨cs', fz', h⟩
  simp at h
theorem St.next {N : Nat} {w W W' : World} {cs : Array Value} {ss ss' : List ByteArray} (h : St N w (.cells cs 25 (0, 0)) ss W) (hN : N < w.heap.size) (hA : WAt N ss' W') (hW : Wrote N W W') : St N w (.cells cs 25 (0, 0)) ss' W' :=
  ⟨hA, h.2.1.trans hW, (hW.high _ (lt_of_block h.2.2) (by omega) (by rw [h.2.2]; exact not_strs)).trans h.2.2⟩
theorem St.quiet {N : Nat} {w W W' : World} {O : Obj} {ss : List ByteArray} (h : St N w O ss W) (hb : Below W.heap.size W W') : St N w O ss W' :=
  ⟨h.1.below hb, h.2.1.trans (Wrote.of_below hb), (hb.block _ (lt_of_block h.2.2)).trans h.2.2⟩
theorem St.low {N : Nat} {w0 w W : World} {O : Obj} {ss : List ByteArray} (h : St N w O ss W) (hb : Below w0.heap.size w0 w) (hN : w0.heap.size ≤ N) : Below w0.heap.size w0 W :=
  ⟨h.2.1.os.trans hb.os, h.2.1.tape.trans hb.tape, h.2.1.output.trans hb.output, Nat.le_trans hb.size h.2.1.size, fun k hk => (h.2.1.low k (Nat.lt_of_lt_of_le hk hb.size) (by omega)).trans (hb.block k hk)⟩
theorem put_n {N : Nat} {w : World} {cs : Array Value} (hN : N < w.heap.size) (ts : List ByteArray) (W : World) (M m : Nat) (ss : List ByteArray) (hM : M = W.heap.size) (hm : ts.length = m) (h : St N w (.cells cs 25 (0, 0)) ss W) (hz : ss.length + m ≤ 1000000) :
    Calls Tryz.prog 52 #[.pointer (some ⟨N, 0, none⟩), .slice (some ⟨M, 0, none⟩) m m] (W.alloc (.cells (ts.map Value.string).toArray 9)) fun e W' => e = .returned (.tuple #[]) ∧ St N w (.cells cs 25 (0, 0)) (ss ++ ts) W' := by
  subst hM hm
  refine (put_walk N ss ts (some ⟨W.heap.size, 0, none⟩) ts.length ts.length (W.alloc (.cells (ts.map Value.string).toArray 9)) (h.1.alloc _) (Src.new W ts _ _) hz).mono ?_
  rintro e W' ⟨rfl, hA, hW⟩
  exact ⟨rfl, (h.alloc _).next hN hA hW⟩
/-- What is asked of typ. -/
def TypOf (w0 : World) (N m : Nat) : Prop := ∀ (t : RT) (h : Hd) (pe : Option Addr) (ne ce : Nat) (p : Option Addr) (l c : Nat) (ss : List ByteArray) (w : World), wt t ≤ m → mayT t = true → allT (effB 1000) t = true → RtIs w0 h pe ne ce p l c t → Below w0.heap.size w0 w → WAt N ss w → ss.length + 8 * wt t ≤ 1000000 →
  Calls Tryz.prog 29 #[.pointer (some ⟨N, 0, none⟩), .agg #[.int .u8 h.k, .int .i64 h.r, .slice pe ne ce, .slice p l c]] w (WEnd N (ss ++ wordsT t) w)
theorem st_end {N : Nat} {w W : World} {O : Obj} {ss : List ByteArray} (h : St N w O ss W) : WEnd N ss w (.returned (.tuple #[])) W := ⟨rfl, h.1, h.2.1⟩
/-- A kid's cells, in whatever world. -/
theorem kid_at {w0 : World} {h : Hd} {pe : Option Addr} {ne ce : Nat} {p : Option Addr} {l c : Nat} {t : RT} (hI : RtIs w0 h pe ne ce p l c t) (hl : 0 < l) : ∃ b o, p = some ⟨b, o, none⟩ ∧ ∀ i, i < l → ∃ qe de q d, RtIs w0 (tget t.ks i).h qe (tget t.ks i).h.e.length de q (tget t.ks i).ks.length d (tget t.ks i) ∧ ∀ W, Below w0.heap.size w0 W →
    W.cell? ⟨b, o + i * 4, none⟩ = some (.int .u8 (tget t.ks i).h.k) ∧ W.cell? ⟨b, o + i * 4 + 1, none⟩ = some (.int .i64 (tget t.ks i).h.r) ∧ W.cell? ⟨b, o + i * 4 + 2, none⟩ = some (.slice qe (tget t.ks i).h.e.length de) ∧ W.cell? ⟨b, o + i * 4 + 3, none⟩ = some (.slice q (tget t.ks i).ks.length d) := by
  have hlen := hI.len
  obtain ⟨b, o, q, d, qe, de, hp, -⟩ := hI.kids.get 0 (by omega)
  refine ⟨b, o, hp, fun i hi => ?_⟩
  obtain ⟨b', o', q', d', qe', de', hp', hT, c0, c1, c2, c3⟩ := hI.kids.get i (by omega)
  rw [hp] at hp'
  injection hp' with hp'
  injection hp' with e1 e2
  subst e1 e2
  refine ⟨qe', de', q', d', hT, fun W hb => ?_⟩
  have hR := fun (a : Addr) (v : Value) (hv : w0.cell? a = some v) => (hb.cell (World.block_lt_of_cell? w0 _ hv)).trans hv
  exact ⟨hR _ _ c0, hR _ _ c1, hR _ _ c2, hR _ _ c3⟩

set_option maxRecDepth 10000 in
set_option maxHeartbeats 6400000 in
theorem typ_1 (w0 : World) (N m : Nat) (hN0 : w0.heap.size ≤ N) (hnl : NumLaid w0) (hT : TypOf w0 N m) (t : RT) (v : Int) (e : List At) (pe : Option Addr) (ne ce : Nat) (p : Option Addr) (l c : Nat) (ss : List ByteArray) (w : World) (hm : wt t ≤ m + 1) (hok : mayT t = true) (hef : allT (effB 1000) t = true) (hI : RtIs w0 ⟨1, v, e⟩ pe ne ce p l c t) (hb : Below w0.heap.size w0 w) (hW : WAt N ss w) (hz : ss.length + 8 * wt t ≤ 1000000) :
    Calls Tryz.prog 29 #[.pointer (some ⟨N, 0, none⟩), .agg #[.int .u8 1, .int .i64 v, .slice pe ne ce, .slice p l c]] w (WEnd N (ss ++ wordsT t) w) := by
  have hNl := hW.lt
  have hlen := hI.len
  have hnode := (may_node hok).1
  rw [hI.head] at hnode
  have hcap := hI.cap
  have hef2 := hef
  rw [allT_eq, Bool.and_eq_true, hI.head] at hef2
  have hv0 := (may_node hok).2.1
  rw [hI.head] at hv0
  have hv1 := hI.ok.r
  simp only at hv0 hv1
  obtain rfl : l = 0 := by
    rcases hnode with ⟨_, h, _⟩ | ⟨h, _⟩ | ⟨h | h, _⟩ <;> first | omega | (simp at h)
  have es : ss ++ wordsT t = ss ++ [wInt] := by
    rw [wordsT_eq, hI.head]
    unfold comb
    simp []
  have hp0 := fun W M hM hSt => put_n (cs := #[.int .u8 1, .int .i64 v, .slice pe ne ce, .slice p 0 c]) hNl [wInt] W M 1 (ss) hM rfl hSt (by have := wt_pos t; simp; omega)
  have hin := inRegion_walk ⟨1, v, e⟩ pe ne ce p 0 c
  simp only at hin
  have hs := St.start (.cells #[.int .u8 1, .int .i64 v, .slice pe ne ce, .slice p 0 c] 25 (0, 0)) hW
  have ES := Lib.hid es; have HS := Lib.hid hs; have HIN := Lib.hid hin; have H0 := Lib.hid hp0
  have hcl : c ≤ 9223372036854775807 := hcap.2
  have hcq := hcap.1
  clear es hs hin hp0 hlen hnode hcap hT hI hb hW hok hm hz hef hef2 hnl hv0 hv1
  go_enter Tryz.func29, Tryz.ntmps29
  go_wp2_with (fail)
  refine (HIN.out _).mono ?_
  rintro en w0' ⟨rfl, hb0'⟩
  have HSA := Lib.hid (HS.out.quiet hb0')
  clear hb0'
  rw [show decide ((1 : Int) ≠ 1) = false from by decide]
  obtain ⟨⟨c0, c1, c2, c3⟩, -⟩ := cells4 HSA.out.2.2
  go_wp2_with (fail)
  refine (H0.out _ _ rfl HSA.out).mono ?_
  rintro en w1 ⟨rfl, h0⟩
  have HS1 := Lib.hid h0
  clear h0 c0 c1 c2 c3
  obtain ⟨⟨c0, c1, c2, c3⟩, -⟩ := cells4 HS1.out.2.2
  go_wp2_with (fail)
  go_end0
  rw [ES.out]
  exact st_end HS1.out

set_option maxRecDepth 10000 in
set_option maxHeartbeats 6400000 in
theorem typ_2 (w0 : World) (N m : Nat) (hN0 : w0.heap.size ≤ N) (hnl : NumLaid w0) (hT : TypOf w0 N m) (t : RT) (v : Int) (e : List At) (pe : Option Addr) (ne ce : Nat) (p : Option Addr) (l c : Nat) (ss : List ByteArray) (w : World) (hm : wt t ≤ m + 1) (hok : mayT t = true) (hef : allT (effB 1000) t = true) (hI : RtIs w0 ⟨2, v, e⟩ pe ne ce p l c t) (hb : Below w0.heap.size w0 w) (hW : WAt N ss w) (hz : ss.length + 8 * wt t ≤ 1000000) :
    Calls Tryz.prog 29 #[.pointer (some ⟨N, 0, none⟩), .agg #[.int .u8 2, .int .i64 v, .slice pe ne ce, .slice p l c]] w (WEnd N (ss ++ wordsT t) w) := by
  have hNl := hW.lt
  have hlen := hI.len
  have hnode := (may_node hok).1
  rw [hI.head] at hnode
  have hcap := hI.cap
  have hef2 := hef
  rw [allT_eq, Bool.and_eq_true, hI.head] at hef2
  have hv0 := (may_node hok).2.1
  rw [hI.head] at hv0
  have hv1 := hI.ok.r
  simp only at hv0 hv1
  obtain rfl : l = 2 := by
    simp at hnode; omega
  obtain ⟨b, o, rfl, hk⟩ := kid_at hI (by omega)
  obtain ⟨qe0, de0, q0, d0, hI0, hc0⟩ := hk 0 (by omega)
  have ok0 := may_kid hok (i := 0) (by omega)
  have ef0 := allK_get _ (j := 0) (by omega) hef2.2
  have wl0 := words_le ok0
  rw [show o + 0 * 4 = o from by omega] at hc0
  obtain ⟨qe1, de1, q1, d1, hI1, hc1⟩ := hk 1 (by omega)
  have ok1 := may_kid hok (i := 1) (by omega)
  have ef1 := allK_get _ (j := 1) (by omega) hef2.2
  have wl1 := words_le ok1
  rw [show o + 1 * 4 = o + 4 from by omega] at hc1
  have hww := wt2 (t := t) (by omega)
  have es : ss ++ wordsT t = ss ++ [wOpen] ++ wordsT (tget t.ks 0) ++ [wStar] ++ wordsT (tget t.ks 1) ++ [wAt, digs v, wShut] := by
    rw [wordsT_eq, hI.head]
    unfold comb
    simp [kw_get (show 0 < t.ks.length by omega), kw_get (show 1 < t.ks.length by omega)]
  have hp0 := fun W M hM hSt => put_n (cs := #[.int .u8 2, .int .i64 v, .slice pe ne ce, .slice (some ⟨b, o, none⟩) 2 c]) hNl [wOpen] W M 1 (ss) hM rfl hSt (by have := wt_pos t; simp; omega)
  have hp1 := fun W (hSt : St N w (.cells #[.int .u8 2, .int .i64 v, .slice pe ne ce, .slice (some ⟨b, o, none⟩) 2 c] 25 (0, 0)) (ss ++ [wOpen]) W) => hT (tget t.ks 0) _ qe0 _ de0 q0 _ d0 (ss ++ [wOpen]) W (by omega) ok0 ef0 hI0 (hSt.low hb hN0) hSt.1 (by simp; omega)
  have hp2 := fun W M hM hSt => put_n (cs := #[.int .u8 2, .int .i64 v, .slice pe ne ce, .slice (some ⟨b, o, none⟩) 2 c]) hNl [wStar] W M 1 (ss ++ [wOpen] ++ wordsT (tget t.ks 0)) hM rfl hSt (by have := wt_pos t; simp; omega)
  have hp3 := fun W (hSt : St N w (.cells #[.int .u8 2, .int .i64 v, .slice pe ne ce, .slice (some ⟨b, o, none⟩) 2 c] 25 (0, 0)) (ss ++ [wOpen] ++ wordsT (tget t.ks 0) ++ [wStar]) W) => hT (tget t.ks 1) _ qe1 _ de1 q1 _ d1 (ss ++ [wOpen] ++ wordsT (tget t.ks 0) ++ [wStar]) W (by omega) ok1 ef1 hI1 (hSt.low hb hN0) hSt.1 (by simp; omega)
  have hp4 := fun W M hM hSt => put_n (cs := #[.int .u8 2, .int .i64 v, .slice pe ne ce, .slice (some ⟨b, o, none⟩) 2 c]) hNl [wAt, digs v, wShut] W M 3 (ss ++ [wOpen] ++ wordsT (tget t.ks 0) ++ [wStar] ++ wordsT (tget t.ks 1)) hM rfl hSt (by have := wt_pos t; simp; omega)
  have hd4 := fun W (hSt : St N w (.cells #[.int .u8 2, .int .i64 v, .slice pe ne ce, .slice (some ⟨b, o, none⟩) 2 c] 25 (0, 0)) (ss ++ [wOpen] ++ wordsT (tget t.ks 0) ++ [wStar] ++ wordsT (tget t.ks 1)) W) => Effect.digitsOf_walk v hv1.1 hv1.2 W (hnl.below (hSt.low hb hN0))
  have hc0' := fun W ss' (hSt : St N w (.cells #[.int .u8 2, .int .i64 v, .slice pe ne ce, .slice (some ⟨b, o, none⟩) 2 c] 25 (0, 0)) ss' W) => hc0 W (hSt.low hb hN0)
  have hc1' := fun W ss' (hSt : St N w (.cells #[.int .u8 2, .int .i64 v, .slice pe ne ce, .slice (some ⟨b, o, none⟩) 2 c] 25 (0, 0)) ss' W) => hc1 W (hSt.low hb hN0)
  have hin := inRegion_walk ⟨2, v, e⟩ pe ne ce (some ⟨b, o, none⟩) 2 c
  simp only at hin
  have hs := St.start (.cells #[.int .u8 2, .int .i64 v, .slice pe ne ce, .slice (some ⟨b, o, none⟩) 2 c] 25 (0, 0)) hW
  have ES := Lib.hid es; have HS := Lib.hid hs; have HIN := Lib.hid hin; have H0 := Lib.hid hp0; have H1 := Lib.hid hp1; have H2 := Lib.hid hp2; have H3 := Lib.hid hp3; have H4 := Lib.hid hp4; have D4 := Lib.hid hd4; have HC0 := Lib.hid hc0'; have HC1 := Lib.hid hc1'
  have hcl : c ≤ 9223372036854775807 := hcap.2
  have hcq := hcap.1
  clear es hs hin hp0 hp1 hp2 hp3 hp4 hd4 hc0' hc0 hI0 ok0 ef0 wl0 hc1' hc1 hI1 ok1 ef1 wl1 hlen hnode hcap hT hI hb hW hok hm hz hef hef2 hnl hv0 hv1 hww hk
  generalize hdg : digs v = dv at *
  clear hdg
  go_enter Tryz.func29, Tryz.ntmps29
  go_wp2_with (fail)
  refine (HIN.out _).mono ?_
  rintro en w0' ⟨rfl, hb0'⟩
  have HSA := Lib.hid (HS.out.quiet hb0')
  clear hb0'
  rw [show decide ((2 : Int) ≠ 1) = true from by decide]
  obtain ⟨⟨c0, c1, c2, c3⟩, -⟩ := cells4 HSA.out.2.2
  go_wp2_with (fail)
  refine (H0.out _ _ rfl HSA.out).mono ?_
  rintro en w1 ⟨rfl, h0⟩
  have HS1 := Lib.hid h0
  clear h0 c0 c1 c2 c3
  obtain ⟨⟨c0, c1, c2, c3⟩, -⟩ := cells4 HS1.out.2.2
  obtain ⟨a0, a1, a2, a3⟩ := HC0.out _ _ HS1.out
  go_wp2_with (fail)
  refine (H1.out _ HS1.out).mono ?_
  rintro en w2 ⟨rfl, hA1, hW1⟩
  have HS2 := Lib.hid (HS1.out.next hNl hA1 hW1)
  clear hA1 hW1 a0 a1 a2 a3 c0 c1 c2 c3
  obtain ⟨⟨c0, c1, c2, c3⟩, -⟩ := cells4 HS2.out.2.2
  go_wp2_with (fail)
  refine (H2.out _ _ rfl HS2.out).mono ?_
  rintro en w3 ⟨rfl, h2⟩
  have HS3 := Lib.hid h2
  clear h2 c0 c1 c2 c3
  obtain ⟨⟨c0, c1, c2, c3⟩, -⟩ := cells4 HS3.out.2.2
  obtain ⟨a0, a1, a2, a3⟩ := HC1.out _ _ HS3.out
  go_wp2_with (fail)
  refine (H3.out _ HS3.out).mono ?_
  rintro en w4 ⟨rfl, hA3, hW3⟩
  have HS4 := Lib.hid (HS3.out.next hNl hA3 hW3)
  clear hA3 hW3 a0 a1 a2 a3 c0 c1 c2 c3
  obtain ⟨⟨c0, c1, c2, c3⟩, -⟩ := cells4 HS4.out.2.2
  go_wp2_with (fail)
  refine (D4.out _ HS4.out).mono ?_
  rintro en wd4 ⟨rfl, hbd4⟩
  have HD4 := Lib.hid (HS4.out.quiet hbd4)
  clear hbd4 c0 c1 c2 c3
  go_wp2_with (fail)
  refine (H4.out _ _ rfl HD4.out).mono ?_
  rintro en w5 ⟨rfl, h4⟩
  have HS5 := Lib.hid h4
  clear h4
  obtain ⟨⟨c0, c1, c2, c3⟩, -⟩ := cells4 HS5.out.2.2
  go_wp2_with (fail)
  go_end0
  rw [ES.out]
  exact st_end HS5.out

set_option maxRecDepth 10000 in
set_option maxHeartbeats 6400000 in
theorem typ_3 (w0 : World) (N m : Nat) (hN0 : w0.heap.size ≤ N) (hnl : NumLaid w0) (hT : TypOf w0 N m) (t : RT) (v : Int) (e : List At) (pe : Option Addr) (ne ce : Nat) (p : Option Addr) (l c : Nat) (ss : List ByteArray) (w : World) (hm : wt t ≤ m + 1) (hok : mayT t = true) (hef : allT (effB 1000) t = true) (hI : RtIs w0 ⟨3, v, e⟩ pe ne ce p l c t) (hb : Below w0.heap.size w0 w) (hW : WAt N ss w) (hz : ss.length + 8 * wt t ≤ 1000000) :
    Calls Tryz.prog 29 #[.pointer (some ⟨N, 0, none⟩), .agg #[.int .u8 3, .int .i64 v, .slice pe ne ce, .slice p l c]] w (WEnd N (ss ++ wordsT t) w) := by
  have hNl := hW.lt
  have hlen := hI.len
  have hnode := (may_node hok).1
  rw [hI.head] at hnode
  have hcap := hI.cap
  have hef2 := hef
  rw [allT_eq, Bool.and_eq_true, hI.head] at hef2
  have hv0 := (may_node hok).2.1
  rw [hI.head] at hv0
  have hv1 := hI.ok.r
  simp only at hv0 hv1
  obtain rfl : l = 1 := by
    simp at hnode; omega
  obtain ⟨b, o, rfl, hk⟩ := kid_at hI (by omega)
  obtain ⟨qe0, de0, q0, d0, hI0, hc0⟩ := hk 0 (by omega)
  have ok0 := may_kid hok (i := 0) (by omega)
  have ef0 := allK_get _ (j := 0) (by omega) hef2.2
  have wl0 := words_le ok0
  rw [show o + 0 * 4 = o from by omega] at hc0
  have hww := wt1 (t := t) (by omega)
  have es : ss ++ wordsT t = ss ++ [wOpen] ++ [wRef] ++ wordsT (tget t.ks 0) ++ [wAt, digs v, wShut] := by
    rw [wordsT_eq, hI.head]
    unfold comb
    simp [kw_get (show 0 < t.ks.length by omega)]
  have hp0 := fun W M hM hSt => put_n (cs := #[.int .u8 3, .int .i64 v, .slice pe ne ce, .slice (some ⟨b, o, none⟩) 1 c]) hNl [wOpen] W M 1 (ss) hM rfl hSt (by have := wt_pos t; simp; omega)
  have hp1 := fun W M hM hSt => put_n (cs := #[.int .u8 3, .int .i64 v, .slice pe ne ce, .slice (some ⟨b, o, none⟩) 1 c]) hNl [wRef] W M 1 (ss ++ [wOpen]) hM rfl hSt (by have := wt_pos t; simp; omega)
  have hp2 := fun W (hSt : St N w (.cells #[.int .u8 3, .int .i64 v, .slice pe ne ce, .slice (some ⟨b, o, none⟩) 1 c] 25 (0, 0)) (ss ++ [wOpen] ++ [wRef]) W) => hT (tget t.ks 0) _ qe0 _ de0 q0 _ d0 (ss ++ [wOpen] ++ [wRef]) W (by omega) ok0 ef0 hI0 (hSt.low hb hN0) hSt.1 (by simp; omega)
  have hp3 := fun W M hM hSt => put_n (cs := #[.int .u8 3, .int .i64 v, .slice pe ne ce, .slice (some ⟨b, o, none⟩) 1 c]) hNl [wAt, digs v, wShut] W M 3 (ss ++ [wOpen] ++ [wRef] ++ wordsT (tget t.ks 0)) hM rfl hSt (by have := wt_pos t; simp; omega)
  have hd3 := fun W (hSt : St N w (.cells #[.int .u8 3, .int .i64 v, .slice pe ne ce, .slice (some ⟨b, o, none⟩) 1 c] 25 (0, 0)) (ss ++ [wOpen] ++ [wRef] ++ wordsT (tget t.ks 0)) W) => Effect.digitsOf_walk v hv1.1 hv1.2 W (hnl.below (hSt.low hb hN0))
  have hc0' := fun W ss' (hSt : St N w (.cells #[.int .u8 3, .int .i64 v, .slice pe ne ce, .slice (some ⟨b, o, none⟩) 1 c] 25 (0, 0)) ss' W) => hc0 W (hSt.low hb hN0)
  have hin := inRegion_walk ⟨3, v, e⟩ pe ne ce (some ⟨b, o, none⟩) 1 c
  simp only at hin
  have hs := St.start (.cells #[.int .u8 3, .int .i64 v, .slice pe ne ce, .slice (some ⟨b, o, none⟩) 1 c] 25 (0, 0)) hW
  have ES := Lib.hid es; have HS := Lib.hid hs; have HIN := Lib.hid hin; have H0 := Lib.hid hp0; have H1 := Lib.hid hp1; have H2 := Lib.hid hp2; have H3 := Lib.hid hp3; have D3 := Lib.hid hd3; have HC0 := Lib.hid hc0'
  have hcl : c ≤ 9223372036854775807 := hcap.2
  have hcq := hcap.1
  clear es hs hin hp0 hp1 hp2 hp3 hd3 hc0' hc0 hI0 ok0 ef0 wl0 hlen hnode hcap hT hI hb hW hok hm hz hef hef2 hnl hv0 hv1 hww hk
  generalize hdg : digs v = dv at *
  clear hdg
  go_enter Tryz.func29, Tryz.ntmps29
  go_wp2_with (fail)
  refine (HIN.out _).mono ?_
  rintro en w0' ⟨rfl, hb0'⟩
  have HSA := Lib.hid (HS.out.quiet hb0')
  clear hb0'
  rw [show decide ((3 : Int) ≠ 1) = true from by decide]
  obtain ⟨⟨c0, c1, c2, c3⟩, -⟩ := cells4 HSA.out.2.2
  go_wp2_with (fail)
  refine (H0.out _ _ rfl HSA.out).mono ?_
  rintro en w1 ⟨rfl, h0⟩
  have HS1 := Lib.hid h0
  clear h0 c0 c1 c2 c3
  obtain ⟨⟨c0, c1, c2, c3⟩, -⟩ := cells4 HS1.out.2.2
  go_wp2_with (fail)
  refine (H1.out _ _ rfl HS1.out).mono ?_
  rintro en w2 ⟨rfl, h1⟩
  have HS2 := Lib.hid h1
  clear h1 c0 c1 c2 c3
  obtain ⟨⟨c0, c1, c2, c3⟩, -⟩ := cells4 HS2.out.2.2
  obtain ⟨a0, a1, a2, a3⟩ := HC0.out _ _ HS2.out
  go_wp2_with (fail)
  refine (H2.out _ HS2.out).mono ?_
  rintro en w3 ⟨rfl, hA2, hW2⟩
  have HS3 := Lib.hid (HS2.out.next hNl hA2 hW2)
  clear hA2 hW2 a0 a1 a2 a3 c0 c1 c2 c3
  obtain ⟨⟨c0, c1, c2, c3⟩, -⟩ := cells4 HS3.out.2.2
  go_wp2_with (fail)
  refine (D3.out _ HS3.out).mono ?_
  rintro en wd3 ⟨rfl, hbd3⟩
  have HD3 := Lib.hid (HS3.out.quiet hbd3)
  clear hbd3 c0 c1 c2 c3
  go_wp2_with (fail)
  refine (H3.out _ _ rfl HD3.out).mono ?_
  rintro en w4 ⟨rfl, h3⟩
  have HS4 := Lib.hid h3
  clear h3
  obtain ⟨⟨c0, c1, c2, c3⟩, -⟩ := cells4 HS4.out.2.2
  go_wp2_with (fail)
  go_end0
  rw [ES.out]
  exact st_end HS4.out

set_option maxRecDepth 10000 in
set_option maxHeartbeats 6400000 in
theorem typ_4 (w0 : World) (N m : Nat) (hN0 : w0.heap.size ≤ N) (hnl : NumLaid w0) (hT : TypOf w0 N m) (t : RT) (v : Int) (e : List At) (pe : Option Addr) (ne ce : Nat) (p : Option Addr) (l c : Nat) (ss : List ByteArray) (w : World) (hm : wt t ≤ m + 1) (hok : mayT t = true) (hef : allT (effB 1000) t = true) (hI : RtIs w0 ⟨4, v, e⟩ pe ne ce p l c t) (hb : Below w0.heap.size w0 w) (hW : WAt N ss w) (hz : ss.length + 8 * wt t ≤ 1000000) :
    Calls Tryz.prog 29 #[.pointer (some ⟨N, 0, none⟩), .agg #[.int .u8 4, .int .i64 v, .slice pe ne ce, .slice p l c]] w (WEnd N (ss ++ wordsT t) w) := by
  have hNl := hW.lt
  have hlen := hI.len
  have hnode := (may_node hok).1
  rw [hI.head] at hnode
  have hcap := hI.cap
  have hef2 := hef
  rw [allT_eq, Bool.and_eq_true, hI.head] at hef2
  have hv0 := (may_node hok).2.1
  rw [hI.head] at hv0
  have hv1 := hI.ok.r
  simp only at hv0 hv1
  obtain rfl : l = 2 := by
    simp at hnode; omega
  obtain ⟨b, o, rfl, hk⟩ := kid_at hI (by omega)
  obtain ⟨qe0, de0, q0, d0, hI0, hc0⟩ := hk 0 (by omega)
  have ok0 := may_kid hok (i := 0) (by omega)
  have ef0 := allK_get _ (j := 0) (by omega) hef2.2
  have wl0 := words_le ok0
  rw [show o + 0 * 4 = o from by omega] at hc0
  obtain ⟨qe1, de1, q1, d1, hI1, hc1⟩ := hk 1 (by omega)
  have ok1 := may_kid hok (i := 1) (by omega)
  have ef1 := allK_get _ (j := 1) (by omega) hef2.2
  have wl1 := words_le ok1
  rw [show o + 1 * 4 = o + 4 from by omega] at hc1
  have hww := wt2 (t := t) (by omega)
  have es : ss ++ wordsT t = ss ++ [wOpen] ++ wordsT (tget t.ks 0) ++ [wArrow] ++ wordsT (tget t.ks 1) ++ [wBang, textE (ofA e)] ++ [wAt, digs v, wShut] := by
    rw [wordsT_eq, hI.head]
    unfold comb
    simp [kw_get (show 0 < t.ks.length by omega), kw_get (show 1 < t.ks.length by omega)]
  have hp0 := fun W M hM hSt => put_n (cs := #[.int .u8 4, .int .i64 v, .slice pe ne ce, .slice (some ⟨b, o, none⟩) 2 c]) hNl [wOpen] W M 1 (ss) hM rfl hSt (by have := wt_pos t; simp; omega)
  have hp1 := fun W (hSt : St N w (.cells #[.int .u8 4, .int .i64 v, .slice pe ne ce, .slice (some ⟨b, o, none⟩) 2 c] 25 (0, 0)) (ss ++ [wOpen]) W) => hT (tget t.ks 0) _ qe0 _ de0 q0 _ d0 (ss ++ [wOpen]) W (by omega) ok0 ef0 hI0 (hSt.low hb hN0) hSt.1 (by simp; omega)
  have hp2 := fun W M hM hSt => put_n (cs := #[.int .u8 4, .int .i64 v, .slice pe ne ce, .slice (some ⟨b, o, none⟩) 2 c]) hNl [wArrow] W M 1 (ss ++ [wOpen] ++ wordsT (tget t.ks 0)) hM rfl hSt (by have := wt_pos t; simp; omega)
  have hp3 := fun W (hSt : St N w (.cells #[.int .u8 4, .int .i64 v, .slice pe ne ce, .slice (some ⟨b, o, none⟩) 2 c] 25 (0, 0)) (ss ++ [wOpen] ++ wordsT (tget t.ks 0) ++ [wArrow]) W) => hT (tget t.ks 1) _ qe1 _ de1 q1 _ d1 (ss ++ [wOpen] ++ wordsT (tget t.ks 0) ++ [wArrow]) W (by omega) ok1 ef1 hI1 (hSt.low hb hN0) hSt.1 (by simp; omega)
  have hp4 := fun W M hM hSt => put_n (cs := #[.int .u8 4, .int .i64 v, .slice pe ne ce, .slice (some ⟨b, o, none⟩) 2 c]) hNl [wBang, textE (ofA e)] W M 2 (ss ++ [wOpen] ++ wordsT (tget t.ks 0) ++ [wArrow] ++ wordsT (tget t.ks 1)) hM rfl hSt (by have := wt_pos t; simp; omega)
  have hd4 := fun W (hSt : St N w (.cells #[.int .u8 4, .int .i64 v, .slice pe ne ce, .slice (some ⟨b, o, none⟩) 2 c] 25 (0, 0)) (ss ++ [wOpen] ++ wordsT (tget t.ks 0) ++ [wArrow] ++ wordsT (tget t.ks 1)) W) => Effect.text_walk (c := ce) (hI.eff.below (hSt.low hb hN0)).rd (by rw [← hI.elen]; exact (eff_iff.1 hef2.1).1) (sh_eff hI.ok.e (eff_iff.1 hef2.1).2 (Nat.le_refl _)) (hnl.below (hSt.low hb hN0))
  have hp5 := fun W M hM hSt => put_n (cs := #[.int .u8 4, .int .i64 v, .slice pe ne ce, .slice (some ⟨b, o, none⟩) 2 c]) hNl [wAt, digs v, wShut] W M 3 (ss ++ [wOpen] ++ wordsT (tget t.ks 0) ++ [wArrow] ++ wordsT (tget t.ks 1) ++ [wBang, textE (ofA e)]) hM rfl hSt (by have := wt_pos t; simp; omega)
  have hd5 := fun W (hSt : St N w (.cells #[.int .u8 4, .int .i64 v, .slice pe ne ce, .slice (some ⟨b, o, none⟩) 2 c] 25 (0, 0)) (ss ++ [wOpen] ++ wordsT (tget t.ks 0) ++ [wArrow] ++ wordsT (tget t.ks 1) ++ [wBang, textE (ofA e)]) W) => Effect.digitsOf_walk v hv1.1 hv1.2 W (hnl.below (hSt.low hb hN0))
  have hc0' := fun W ss' (hSt : St N w (.cells #[.int .u8 4, .int .i64 v, .slice pe ne ce, .slice (some ⟨b, o, none⟩) 2 c] 25 (0, 0)) ss' W) => hc0 W (hSt.low hb hN0)
  have hc1' := fun W ss' (hSt : St N w (.cells #[.int .u8 4, .int .i64 v, .slice pe ne ce, .slice (some ⟨b, o, none⟩) 2 c] 25 (0, 0)) ss' W) => hc1 W (hSt.low hb hN0)
  have hin := inRegion_walk ⟨4, v, e⟩ pe ne ce (some ⟨b, o, none⟩) 2 c
  simp only at hin
  have hs := St.start (.cells #[.int .u8 4, .int .i64 v, .slice pe ne ce, .slice (some ⟨b, o, none⟩) 2 c] 25 (0, 0)) hW
  have ES := Lib.hid es; have HS := Lib.hid hs; have HIN := Lib.hid hin; have H0 := Lib.hid hp0; have H1 := Lib.hid hp1; have H2 := Lib.hid hp2; have H3 := Lib.hid hp3; have H4 := Lib.hid hp4; have D4 := Lib.hid hd4; have H5 := Lib.hid hp5; have D5 := Lib.hid hd5; have HC0 := Lib.hid hc0'; have HC1 := Lib.hid hc1'
  have hcl : c ≤ 9223372036854775807 := hcap.2
  have hcq := hcap.1
  clear es hs hin hp0 hp1 hp2 hp3 hp4 hd4 hp5 hd5 hc0' hc0 hI0 ok0 ef0 wl0 hc1' hc1 hI1 ok1 ef1 wl1 hlen hnode hcap hT hI hb hW hok hm hz hef hef2 hnl hv0 hv1 hww hk
  generalize hdg : digs v = dv at *
  generalize hte : textE (ofA e) = te at *
  clear hdg hte
  go_enter Tryz.func29, Tryz.ntmps29
  go_wp2_with (fail)
  refine (HIN.out _).mono ?_
  rintro en w0' ⟨rfl, hb0'⟩
  have HSA := Lib.hid (HS.out.quiet hb0')
  clear hb0'
  rw [show decide ((4 : Int) ≠ 1) = true from by decide]
  obtain ⟨⟨c0, c1, c2, c3⟩, -⟩ := cells4 HSA.out.2.2
  go_wp2_with (fail)
  refine (H0.out _ _ rfl HSA.out).mono ?_
  rintro en w1 ⟨rfl, h0⟩
  have HS1 := Lib.hid h0
  clear h0 c0 c1 c2 c3
  obtain ⟨⟨c0, c1, c2, c3⟩, -⟩ := cells4 HS1.out.2.2
  obtain ⟨a0, a1, a2, a3⟩ := HC0.out _ _ HS1.out
  go_wp2_with (fail)
  refine (H1.out _ HS1.out).mono ?_
  rintro en w2 ⟨rfl, hA1, hW1⟩
  have HS2 := Lib.hid (HS1.out.next hNl hA1 hW1)
  clear hA1 hW1 a0 a1 a2 a3 c0 c1 c2 c3
  obtain ⟨⟨c0, c1, c2, c3⟩, -⟩ := cells4 HS2.out.2.2
  go_wp2_with (fail)
  refine (H2.out _ _ rfl HS2.out).mono ?_
  rintro en w3 ⟨rfl, h2⟩
  have HS3 := Lib.hid h2
  clear h2 c0 c1 c2 c3
  obtain ⟨⟨c0, c1, c2, c3⟩, -⟩ := cells4 HS3.out.2.2
  obtain ⟨a0, a1, a2, a3⟩ := HC1.out _ _ HS3.out
  go_wp2_with (fail)
  refine (H3.out _ HS3.out).mono ?_
  rintro en w4 ⟨rfl, hA3, hW3⟩
  have HS4 := Lib.hid (HS3.out.next hNl hA3 hW3)
  clear hA3 hW3 a0 a1 a2 a3 c0 c1 c2 c3
  obtain ⟨⟨c0, c1, c2, c3⟩, -⟩ := cells4 HS4.out.2.2
  go_wp2_with (fail)
  refine (D4.out _ HS4.out).mono ?_
  rintro en wd4 ⟨rfl, hbd4⟩
  have HD4 := Lib.hid (HS4.out.quiet hbd4)
  clear hbd4 c0 c1 c2 c3
  go_wp2_with (fail)
  refine (H4.out _ _ rfl HD4.out).mono ?_
  rintro en w5 ⟨rfl, h4⟩
  have HS5 := Lib.hid h4
  clear h4
  obtain ⟨⟨c0, c1, c2, c3⟩, -⟩ := cells4 HS5.out.2.2
  go_wp2_with (fail)
  refine (D5.out _ HS5.out).mono ?_
  rintro en wd5 ⟨rfl, hbd5⟩
  have HD5 := Lib.hid (HS5.out.quiet hbd5)
  clear hbd5 c0 c1 c2 c3
  go_wp2_with (fail)
  refine (H5.out _ _ rfl HD5.out).mono ?_
  rintro en w6 ⟨rfl, h5⟩
  have HS6 := Lib.hid h5
  clear h5
  obtain ⟨⟨c0, c1, c2, c3⟩, -⟩ := cells4 HS6.out.2.2
  go_wp2_with (fail)
  go_end0
  rw [ES.out]
  exact st_end HS6.out

/-- THE WRITER'S TYPE. -/
theorem typ_all (w0 : World) (N : Nat) (hN : w0.heap.size ≤ N) (hnl : NumLaid w0) : ∀ m, TypOf w0 N m := by
  intro m
  induction m with
  | zero =>
    intro t h pe ne ce p l c ss w hm
    have := wt_pos t
    omega
  | succ m ih =>
    intro t h pe ne ce p l c ss w hm hok hef hI hb hW hz
    have hk := (may_node hok).1
    rw [hI.head] at hk
    obtain ⟨k, v, e⟩ := h
    simp only at hk
    have hh : k = 1 ∨ k = 2 ∨ k = 3 ∨ k = 4 := by omega
    rcases hh with rfl | rfl | rfl | rfl
    · exact typ_1 w0 N m hN hnl ih t v e pe ne ce p l c ss w hm hok hef hI hb hW hz
    · exact typ_2 w0 N m hN hnl ih t v e pe ne ce p l c ss w hm hok hef hI hb hW hz
    · exact typ_3 w0 N m hN hnl ih t v e pe ne ce p l c ss w hm hok hef hI hb hW hz
    · exact typ_4 w0 N m hN hnl ih t v e pe ne ce p l c ss w hm hok hef hI hb hW hz
end Rt
end Go.Proofs.YtabegjpledammaaGreatDoor
namespace Go.Proofs.YtabegjpledammaaGreatDoor
open Go.RowKit
set_option linter.unusedVariables false
set_option linter.unusedSimpArgs false
namespace Rt
open Effect (At AtOk AtsAt Rd ofA ret_i64 ret_bool lt_of_block heap_alloc_new textE digs NumLaid own_slice)
open Types (jb jb_list)

def textS (t : RT) : ByteArray := if mayT t = true then jb (wordsT t) else ⟨#[]⟩
def errE (t : RT) : Int := if mayT t = true then 0 else 1
def TextEnd (t : RT) (w : World) (e : Ending) (w' : World) : Prop := e = .returned (.tuple #[.string (textS t), .int .i64 (errE t)]) ∧ Below w.heap.size w w'
theorem text_no {t : RT} (h : mayT t = false) : textS t = ⟨#[]⟩ ∧ errE t = 1 := by unfold textS errE; rw [h]; exact ⟨rfl, rfl⟩
theorem text_yes {t : RT} (h : mayT t = true) : textS t = jb (wordsT t) ∧ errE t = 0 := by unfold textS errE; rw [h]; exact ⟨rfl, rfl⟩
theorem wrote_low {N : Nat} {a w W : World} (h : Wrote N w W) {B : Nat} (hb : Below B a w) (hB : B ≤ N) (hw : B ≤ a.heap.size) : Below B a W :=
  ⟨h.os.trans hb.os, h.tape.trans hb.tape, h.output.trans hb.output, Nat.le_trans hb.size h.size, fun k hk => (h.low k (Nat.lt_of_lt_of_le (Nat.lt_of_lt_of_le hk hw) hb.size) (by omega)).trans (hb.block k hk)⟩
theorem eff_more {n m : Nat} (hnm : n ≤ m) {t : RT} (h : allT (effB n) t = true) : allT (effB m) t = true :=
  (all_imp (fun h l hh => eff_iff.2 ⟨Nat.le_trans (eff_iff.1 hh).1 hnm, fun x hx => Nat.le_trans ((eff_iff.1 hh).2 x hx) hnm⟩) _).1 t (Nat.le_refl _) h
theorem eff_moreK {n m : Nat} (hnm : n ≤ m) {ts : List RT} (h : allK (effB n) ts = true) : allK (effB m) ts = true :=
  (all_imp (fun h l hh => eff_iff.2 ⟨Nat.le_trans (eff_iff.1 hh).1 hnm, fun x hx => Nat.le_trans ((eff_iff.1 hh).2 x hx) hnm⟩) _).2 ts (Nat.le_refl _) h
theorem own_at {w : World} {base e size n c : Nat} {a : Option Addr} {xs : List Value} (h : w.ownsRow base e size (.slice a n c) n xs) (hn : 0 < n) : ∃ g, a = some ⟨g, 0, none⟩ ∧ base ≤ g := by
  rcases h.2 with ⟨_, h0⟩ | ⟨g, cap, _, hv, hg, _⟩
  · omega
  · injection hv with hv; exact ⟨g, hv, hg⟩
set_option maxRecDepth 10000 in
set_option maxHeartbeats 12800000 in
theorem text_walk (t : RT) (h : Hd) (pe : Option Addr) (ne ce : Nat) (p : Option Addr) (l c : Nat) (w : World) (hT : RtIs w h pe ne ce p l c t) (hw : wt t ≤ 100000) (hef : allT (effB 1000) t = true) (hsz : mayT t = true → (jb (wordsT t)).size ≤ 100000000) (hn : NumLaid w) :
    Calls Tryz.prog 10 #[.agg #[.int .u8 h.k, .int .i64 h.r, .slice pe ne ce, .slice p l c]] w (TextEnd t w) := by
  have hmay := fun O : Obj => may_walk [t] (some ⟨(w.alloc O).heap.size, 0, none⟩) 1 1 ((w.alloc O).alloc (.cells #[.int .u8 h.k, .int .i64 h.r, .slice pe ne ce, .slice p l c] 25)) rfl one_le (kids_one (hT.below (box_new O)) 25 _ rfl) (by rw [allK_one]; exact eff_more (by omega) hef)
  have hsm : ∀ O : Obj, (w.alloc O).heap.size = w.heap.size + 1 := fun O => by simp
  simp only [hsm] at hmay
  have hmk : mayK [t] = mayT t := allK_one _ t
  rw [hmk] at hmay
  obtain ⟨k, v, e⟩ := h
  have HM := Lib.hid hmay; have HT := Lib.hid hT; have HN := Lib.hid hn; have HW := Lib.hid hw; have HEF := Lib.hid hef; have HSZ := Lib.hid hsz
  clear hmay hT hn hw hef hsz hsm hmk
  go_enter Tryz.func10, Tryz.ntmps10
  go_wp2_with (fail)
  refine (HM.out _).mono ?_
  rintro en w1 ⟨rfl, hb1⟩
  have hX1 := (hb1.block w.heap.size (by simp; omega)).trans (((box_new _).block _ (by simp)).trans (heap_alloc_new w (.cells #[.int .u8 k, .int .i64 v, .slice pe ne ce, .slice p l c] 25)))
  have hB1 : Below w.heap.size w w1 := (box_new _).trans (((box_new _).trans (hb1.mono (by simp))).mono (by simp))
  have HB1 := Lib.hid hB1; have HX1 := Lib.hid hX1
  clear hb1 hB1 hX1
  cases hmt : mayT t
  · obtain ⟨e1, e2⟩ := text_no hmt
    have HE := Lib.hid (And.intro e1 e2)
    clear hmt e1 e2
    go_wp2_with (fail)
    refine bodyPost_ret (v := .tuple #[.string ⟨#[]⟩, .int .i64 1]) (by simp [results, Tryz.results10, go_sem]) rfl ?_
    exact ⟨by rw [HE.out.1, HE.out.2], HB1.out⟩
  · obtain ⟨e1, e2⟩ := text_yes hmt
    have hwl := words_le hmt
    have hpos := (words_pos _ t (Nat.le_refl _) hmt).1
    have hwt := HW.out
    have hcall := fun W hA hb => typ_all w1 w1.heap.size (Nat.le_refl _) (HN.out.below HB1.out) (wt t) t ⟨k, v, e⟩ pe ne ce p l c [] W (Nat.le_refl _) hmt HEF.out (HT.out.below HB1.out) hb hA (by simp; omega)
    have hA0 : WAt w1.heap.size [] (w1.alloc (.cells #[.slice none 0 0] 54)) := ⟨_, heap_alloc_new w1 _, World.ownsRow_nil _ _ _ _⟩
    have hle : (wordsT t).length ≤ 1000000 := by omega
    have hbd := HSZ.out hmt
    have HE := Lib.hid (And.intro e1 e2); have HC := Lib.hid hcall; have HA0 := Lib.hid hA0; have HLE := Lib.hid (And.intro hpos (And.intro hle hbd))
    obtain ⟨⟨c0, c1, c2, c3⟩, -⟩ := cells4 HX1.out
    have hlt := lt_of_block HX1.out
    clear hmt e1 e2 hwl hpos hwt hcall hA0 hle hbd
    go_wp2_with (fail)
    refine (HC.out _ HA0.out (box_new _)).mono ?_
    rintro en w5 ⟨rfl, hA5, hW5⟩
    rw [List.nil_append] at hA5
    obtain ⟨vv, hv5, hown⟩ := hA5
    obtain ⟨va, vc, hvv, _, hcap⟩ := own_slice hown
    subst hvv
    obtain ⟨g, rfl, hg⟩ := own_at hown (by have := HLE.out.1; omega)
    have e0 : w5.cell? ⟨w1.heap.size, 0, none⟩ = some (.slice (some ⟨g, 0, none⟩) (wordsT t).length vc) := by simp [World.cell?, hv5]
    have el := lt_of_block hv5
    have hcells : ∀ (j : Nat) x, (wordsT t)[j]? = some x → w5.cell? ⟨g, 0 + j, none⟩ = some (.string x) := by
      intro j x hx
      have := hown.cells (g := g) rfl j (.string x) (by rw [List.getElem?_map, hx]; rfl)
      rw [Addr.add_lit] at this
      exact this
    have hgl := (hown.lt g rfl).2
    have hle := HLE.out.2.1
    have hbd := HLE.out.2.2
    have hjoin := Tryz.strings_Join g 0 vc (wordsT t) ⟨#[32]⟩ w5 hcells hgl (by omega) hcap (by have e : (jb (wordsT t)).size = (Lib.join ((wordsT t).map (·.data.toList)) [32]).length := (by rw [← jb_list]; rfl); rw [e] at hbd; show (Lib.join _ [32]).length ≤ _; omega)
    have hB5 : Below w.heap.size w w5 := wrote_low hW5 (HB1.out.alloc HB1.out.size _) HB1.out.size (Nat.le_refl _)
    have HJ := Lib.hid hjoin; have HB5 := Lib.hid hB5
    clear hv5 hown hcells hgl hbd hle hjoin hW5 hcap hg hB5 c0 c1 c2 c3
    generalize (wordsT t).length = L at *
    go_wp2_with (fail)
    refine HJ.out.mono ?_
    rintro en w6 ⟨rfl, hb6⟩
    have HB6 := Lib.hid (below_then HB5.out hb6 HB5.out.size)
    clear hb6 e0 el
    go_wp2_with (fail)
    refine bodyPost_ret (v := .tuple #[.string ⟨(Lib.join (List.map (fun x => x.data.toList) (wordsT t)) [32]).toArray⟩, .int .i64 0]) (by simp [results, Tryz.results10, go_sem]) rfl ?_
    exact ⟨by rw [HE.out.1, HE.out.2]; rfl, HB6.out⟩
end Rt
end Go.Proofs.YtabegjpledammaaGreatDoor
