import Derived.Test.YtkfkpjngiffamaaGreatDoorGC10
import Derived.Test.YtkfkpjngiffamaaGreatDoorGC09
import Derived.Deep.WholeRow
namespace Go.Proofs.YtkfkpjngiffamaaGreatDoor
open Go.RowKit
set_option linter.unusedVariables false
set_option linter.unusedSimpArgs false
namespace Rt
open Effect (At AtOk AtsAt Rd ofA ret_i64 ret_bool lt_of_block heap_alloc_new textE digs NumLaid)
open Types (wInt wOpen wShut wStar wRef wArrow)

def St (N : Nat) (w : World) (O : Obj) (ss : List ByteArray) (W : World) : Prop := WAt N ss W ∧ Wrote N w W ∧ W.heap[w.heap.size]? = some O
theorem St.start {N : Nat} {w : World} {ss : List ByteArray} (O : Obj) (h : WAt N ss w) : St N w O ss (w.alloc O) := ⟨h.alloc O, (Wrote.refl N w).alloc O, heap_alloc_new w O⟩
theorem St.alloc {N : Nat} {w W : World} {O : Obj} {ss : List ByteArray} (h : St N w O ss W) (O' : Obj) : St N w O ss (W.alloc O') := ⟨h.1.alloc O', h.2.1.alloc O', (Below.heap_alloc _ _ _ (lt_of_block h.2.2)).trans h.2.2⟩
theorem not_strs {cs : Array Value} {fz : Nat × Nat} : ¬ IsStrs (some (.cells cs 28 fz)) := by
 rintro ⟨cs', fz', h⟩
 simp at h
theorem St.next {N : Nat} {w W W' : World} {cs : Array Value} {ss ss' : List ByteArray} (h : St N w (.cells cs 28 (0, 0)) ss W) (hN : N < w.heap.size) (hA : WAt N ss' W') (hW : Wrote N W W') : St N w (.cells cs 28 (0, 0)) ss' W' :=
 ⟨hA, h.2.1.trans hW, (hW.high _ (lt_of_block h.2.2) (by omega) (by rw [h.2.2]; exact not_strs)).trans h.2.2⟩
theorem St.quiet {N : Nat} {w W W' : World} {O : Obj} {ss : List ByteArray} (h : St N w O ss W) (hb : Below W.heap.size W W') : St N w O ss W' :=
 ⟨h.1.below hb, h.2.1.trans (Wrote.of_below hb), (hb.block _ (lt_of_block h.2.2)).trans h.2.2⟩
theorem St.low {N : Nat} {w0 w W : World} {O : Obj} {ss : List ByteArray} (h : St N w O ss W) (hb : Below w0.heap.size w0 w) (hN : w0.heap.size ≤ N) : Below w0.heap.size w0 W :=
 ⟨h.2.1.os.trans hb.os, h.2.1.tape.trans hb.tape, h.2.1.output.trans hb.output, Nat.le_trans hb.size h.2.1.size, fun k hk => (h.2.1.low k (Nat.lt_of_lt_of_le hk hb.size) (by omega)).trans (hb.block k hk)⟩
theorem put_n {N : Nat} {w : World} {cs : Array Value} (hN : N < w.heap.size) (ts : List ByteArray) (W : World) (M m : Nat) (ss : List ByteArray) (hM : M = W.heap.size) (hm : ts.length = m) (h : St N w (.cells cs 28 (0, 0)) ss W) (hz : ss.length + m ≤ 1000000) :
  Calls Tryz.prog 145 #[.pointer (some ⟨N, 0, none⟩), .slice (some ⟨M, 0, none⟩) m m] (W.alloc (.cells (ts.map Value.string).toArray 9)) fun e W' => e = .returned (.tuple #[]) ∧ St N w (.cells cs 28 (0, 0)) (ss ++ ts) W' := by
 subst hM hm
 refine (put_walk N ss ts (some ⟨W.heap.size, 0, none⟩) ts.length ts.length (W.alloc (.cells (ts.map Value.string).toArray 9)) (h.1.alloc _) (Src.new W ts _ _) hz).mono ?_
 rintro e W' ⟨rfl, hA, hW⟩
 exact ⟨rfl, (h.alloc _).next hN hA hW⟩
def TypOf (w0 : World) (N m : Nat) : Prop := ∀ (t : RT) (h : Hd) (pe : Option Addr) (ne ce : Nat) (p : Option Addr) (l c : Nat) (ss : List ByteArray) (w : World), wt t ≤ m → mayT t = true → allT (effB 1000) t = true → RtIs w0 h pe ne ce p l c t → Below w0.heap.size w0 w → WAt N ss w → ss.length + 8 * wt t ≤ 1000000 →
 Calls Tryz.prog 130 #[.pointer (some ⟨N, 0, none⟩), .agg #[.int .u8 h.k, .int .i64 h.r, .slice pe ne ce, .slice p l c]] w (WEnd N (ss ++ wordsT t) w)
theorem st_end {N : Nat} {w W : World} {O : Obj} {ss : List ByteArray} (h : St N w O ss W) : WEnd N ss w (.returned (.tuple #[])) W := ⟨rfl, h.1, h.2.1⟩
theorem kid_at {w0 : World} {h : Hd} {pe : Option Addr} {ne ce : Nat} {p : Option Addr} {l c : Nat} {t : RT} (hI : RtIs w0 h pe ne ce p l c t) (hl : 0 < l) : ∃ b o, p = some ⟨b, o, none⟩ ∧ ∀ i, i < l → ∃ qe de q d, RtIs w0 (tget t.ks i).h qe (tget t.ks i).h.e.length de q (tget t.ks i).ks.length d (tget t.ks i) ∧ ∀ W, Below w0.heap.size w0 W →
  W.cell? ⟨b, o + i * 4, none⟩ = some (.int .u8 (tget t.ks i).h.k) ∧ W.cell? ⟨b, o + i * 4 + 1, none⟩ = some (.int .i64 (tget t.ks i).h.r) ∧ W.cell? ⟨b, o + i * 4 + 2, none⟩ = some (.slice qe (tget t.ks i).h.e.length de) ∧ W.cell? ⟨b, o + i * 4 + 3, none⟩ = some (.slice q (tget t.ks i).ks.length d) := by
 have hlen := hI.len
 obtain ⟨b, o, q, d, qe, de, hp, -⟩ := hI.kids.get 0 (by omega)
 refine ⟨b, o, hp, fun i hi => ?_⟩
 obtain ⟨b', o', q', d', qe', de', hp', hT, c0, c1, c2, c3⟩ := hI.kids.get i (by omega)
 rw [hp] at hp'
 injection hp' with hp'
 injection hp' with e1 e2
 subst e1 e2
 refine ⟨qe', de', q', d', hT, fun W hb => ?_⟩
 have hR := fun (a : Addr) (v : Value) (hv : w0.cell? a = some v) => (hb.cell (World.block_lt_of_cell? w0 _ hv)).trans hv
 exact ⟨hR _ _ c0, hR _ _ c1, hR _ _ c2, hR _ _ c3⟩

set_option maxRecDepth 10000 in
set_option maxHeartbeats 6400000 in
theorem typ_1 (w0 : World) (N m : Nat) (hN0 : w0.heap.size ≤ N) (hnl : NumLaid w0) (hT : TypOf w0 N m) (t : RT) (v : Int) (e : List At) (pe : Option Addr) (ne ce : Nat) (p : Option Addr) (l c : Nat) (ss : List ByteArray) (w : World) (hm : wt t ≤ m + 1) (hok : mayT t = true) (hef : allT (effB 1000) t = true) (hI : RtIs w0 ⟨1, v, e⟩ pe ne ce p l c t) (hb : Below w0.heap.size w0 w) (hW : WAt N ss w) (hz : ss.length + 8 * wt t ≤ 1000000) :
  Calls Tryz.prog 130 #[.pointer (some ⟨N, 0, none⟩), .agg #[.int .u8 1, .int .i64 v, .slice pe ne ce, .slice p l c]] w (WEnd N (ss ++ wordsT t) w) := by
 have hNl := hW.lt
 have hlen := hI.len
 have hnode := (may_node hok).1
 rw [hI.head] at hnode
 have hcap := hI.cap
 have hef2 := hef
 rw [allT_eq, Bool.and_eq_true, hI.head] at hef2
 have hv0 := (may_node hok).2.1
 rw [hI.head] at hv0
 have hv1 := hI.ok.r
 simp only at hv0 hv1
 obtain rfl : l = 0 := by
  rcases hnode with ⟨_, h, _⟩ | ⟨h, _⟩ | ⟨h | h, _⟩ <;> first | omega | (simp at h)
 have es : ss ++ wordsT t = ss ++ [wInt] := by
  rw [wordsT_eq, hI.head]
  unfold comb
  simp []
 have hp0 := fun W M hM hSt => put_n (cs := #[.int .u8 1, .int .i64 v, .slice pe ne ce, .slice p 0 c]) hNl [wInt] W M 1 (ss) hM rfl hSt (by have := wt_pos t; simp; omega)
 have hin := inRegion_walk ⟨1, v, e⟩ pe ne ce p 0 c
 simp only at hin
 have hs := St.start (.cells #[.int .u8 1, .int .i64 v, .slice pe ne ce, .slice p 0 c] 28 (0, 0)) hW
 have ES := Lib.hid es; have HS := Lib.hid hs; have HIN := Lib.hid hin; have H0 := Lib.hid hp0
 have hcl : c ≤ 9223372036854775807 := hcap.2
 have hcq := hcap.1
 clear es hs hin hp0 hlen hnode hcap hT hI hb hW hok hm hz hef hef2 hnl hv0 hv1
 go_enter Tryz.func130, Tryz.ntmps130
 go_wp2_with (fail)
 refine (HIN.out _).mono ?_
 rintro en w0' ⟨rfl, hb0'⟩
 have HSA := Lib.hid (HS.out.quiet hb0')
 clear hb0'
 rw [show decide ((1 : Int) ≠ 1) = false from by decide]
 obtain ⟨⟨c0, c1, c2, c3⟩, -⟩ := cells4 HSA.out.2.2
 go_wp2_with (fail)
 refine (H0.out _ _ rfl HSA.out).mono ?_
 rintro en w1 ⟨rfl, h0⟩
 have HS1 := Lib.hid h0
 clear h0 c0 c1 c2 c3
 obtain ⟨⟨c0, c1, c2, c3⟩, -⟩ := cells4 HS1.out.2.2
 go_wp2_with (fail)
 go_end0
 rw [ES.out]
 exact st_end HS1.out

set_option maxRecDepth 10000 in
set_option maxHeartbeats 6400000 in
theorem typ_2 (w0 : World) (N m : Nat) (hN0 : w0.heap.size ≤ N) (hnl : NumLaid w0) (hT : TypOf w0 N m) (t : RT) (v : Int) (e : List At) (pe : Option Addr) (ne ce : Nat) (p : Option Addr) (l c : Nat) (ss : List ByteArray) (w : World) (hm : wt t ≤ m + 1) (hok : mayT t = true) (hef : allT (effB 1000) t = true) (hI : RtIs w0 ⟨2, v, e⟩ pe ne ce p l c t) (hb : Below w0.heap.size w0 w) (hW : WAt N ss w) (hz : ss.length + 8 * wt t ≤ 1000000) :
  Calls Tryz.prog 130 #[.pointer (some ⟨N, 0, none⟩), .agg #[.int .u8 2, .int .i64 v, .slice pe ne ce, .slice p l c]] w (WEnd N (ss ++ wordsT t) w) := by
 have hNl := hW.lt
 have hlen := hI.len
 have hnode := (may_node hok).1
 rw [hI.head] at hnode
 have hcap := hI.cap
 have hef2 := hef
 rw [allT_eq, Bool.and_eq_true, hI.head] at hef2
 have hv0 := (may_node hok).2.1
 rw [hI.head] at hv0
 have hv1 := hI.ok.r
 simp only at hv0 hv1
 obtain rfl : l = 2 := by
  simp at hnode; omega
 obtain ⟨b, o, rfl, hk⟩ := kid_at hI (by omega)
 obtain ⟨qe0, de0, q0, d0, hI0, hc0⟩ := hk 0 (by omega)
 have ok0 := may_kid hok (i := 0) (by omega)
 have ef0 := allK_get _ (j := 0) (by omega) hef2.2
 have wl0 := words_le ok0
 rw [show o + 0 * 4 = o from by omega] at hc0
 obtain ⟨qe1, de1, q1, d1, hI1, hc1⟩ := hk 1 (by omega)
 have ok1 := may_kid hok (i := 1) (by omega)
 have ef1 := allK_get _ (j := 1) (by omega) hef2.2
 have wl1 := words_le ok1
 rw [show o + 1 * 4 = o + 4 from by omega] at hc1
 have hww := wt2 (t := t) (by omega)
 have es : ss ++ wordsT t = ss ++ [wOpen] ++ wordsT (tget t.ks 0) ++ [wStar] ++ wordsT (tget t.ks 1) ++ [wAt, digs v, wShut] := by
  rw [wordsT_eq, hI.head]
  unfold comb
  simp [kw_get (show 0 < t.ks.length by omega), kw_get (show 1 < t.ks.length by omega)]
 have hp0 := fun W M hM hSt => put_n (cs := #[.int .u8 2, .int .i64 v, .slice pe ne ce, .slice (some ⟨b, o, none⟩) 2 c]) hNl [wOpen] W M 1 (ss) hM rfl hSt (by have := wt_pos t; simp; omega)
 have hp1 := fun W (hSt : St N w (.cells #[.int .u8 2, .int .i64 v, .slice pe ne ce, .slice (some ⟨b, o, none⟩) 2 c] 28 (0, 0)) (ss ++ [wOpen]) W) => hT (tget t.ks 0) _ qe0 _ de0 q0 _ d0 (ss ++ [wOpen]) W (by omega) ok0 ef0 hI0 (hSt.low hb hN0) hSt.1 (by simp; omega)
 have hp2 := fun W M hM hSt => put_n (cs := #[.int .u8 2, .int .i64 v, .slice pe ne ce, .slice (some ⟨b, o, none⟩) 2 c]) hNl [wStar] W M 1 (ss ++ [wOpen] ++ wordsT (tget t.ks 0)) hM rfl hSt (by have := wt_pos t; simp; omega)
 have hp3 := fun W (hSt : St N w (.cells #[.int .u8 2, .int .i64 v, .slice pe ne ce, .slice (some ⟨b, o, none⟩) 2 c] 28 (0, 0)) (ss ++ [wOpen] ++ wordsT (tget t.ks 0) ++ [wStar]) W) => hT (tget t.ks 1) _ qe1 _ de1 q1 _ d1 (ss ++ [wOpen] ++ wordsT (tget t.ks 0) ++ [wStar]) W (by omega) ok1 ef1 hI1 (hSt.low hb hN0) hSt.1 (by simp; omega)
 have hp4 := fun W M hM hSt => put_n (cs := #[.int .u8 2, .int .i64 v, .slice pe ne ce, .slice (some ⟨b, o, none⟩) 2 c]) hNl [wAt, digs v, wShut] W M 3 (ss ++ [wOpen] ++ wordsT (tget t.ks 0) ++ [wStar] ++ wordsT (tget t.ks 1)) hM rfl hSt (by have := wt_pos t; simp; omega)
 have hd4 := fun W (hSt : St N w (.cells #[.int .u8 2, .int .i64 v, .slice pe ne ce, .slice (some ⟨b, o, none⟩) 2 c] 28 (0, 0)) (ss ++ [wOpen] ++ wordsT (tget t.ks 0) ++ [wStar] ++ wordsT (tget t.ks 1)) W) => Effect.digitsOf_walk v hv1.1 hv1.2 W (hnl.below (hSt.low hb hN0))
 have hc0' := fun W ss' (hSt : St N w (.cells #[.int .u8 2, .int .i64 v, .slice pe ne ce, .slice (some ⟨b, o, none⟩) 2 c] 28 (0, 0)) ss' W) => hc0 W (hSt.low hb hN0)
 have hc1' := fun W ss' (hSt : St N w (.cells #[.int .u8 2, .int .i64 v, .slice pe ne ce, .slice (some ⟨b, o, none⟩) 2 c] 28 (0, 0)) ss' W) => hc1 W (hSt.low hb hN0)
 have hin := inRegion_walk ⟨2, v, e⟩ pe ne ce (some ⟨b, o, none⟩) 2 c
 simp only at hin
 have hs := St.start (.cells #[.int .u8 2, .int .i64 v, .slice pe ne ce, .slice (some ⟨b, o, none⟩) 2 c] 28 (0, 0)) hW
 have ES := Lib.hid es; have HS := Lib.hid hs; have HIN := Lib.hid hin; have H0 := Lib.hid hp0; have H1 := Lib.hid hp1; have H2 := Lib.hid hp2; have H3 := Lib.hid hp3; have H4 := Lib.hid hp4; have D4 := Lib.hid hd4; have HC0 := Lib.hid hc0'; have HC1 := Lib.hid hc1'
 have hcl : c ≤ 9223372036854775807 := hcap.2
 have hcq := hcap.1
 clear es hs hin hp0 hp1 hp2 hp3 hp4 hd4 hc0' hc0 hI0 ok0 ef0 wl0 hc1' hc1 hI1 ok1 ef1 wl1 hlen hnode hcap hT hI hb hW hok hm hz hef hef2 hnl hv0 hv1 hww hk
 generalize hdg : digs v = dv at *
 clear hdg
 go_enter Tryz.func130, Tryz.ntmps130
 go_wp2_with (fail)
 refine (HIN.out _).mono ?_
 rintro en w0' ⟨rfl, hb0'⟩
 have HSA := Lib.hid (HS.out.quiet hb0')
 clear hb0'
 rw [show decide ((2 : Int) ≠ 1) = true from by decide]
 obtain ⟨⟨c0, c1, c2, c3⟩, -⟩ := cells4 HSA.out.2.2
 go_wp2_with (fail)
 refine (H0.out _ _ rfl HSA.out).mono ?_
 rintro en w1 ⟨rfl, h0⟩
 have HS1 := Lib.hid h0
 clear h0 c0 c1 c2 c3
 obtain ⟨⟨c0, c1, c2, c3⟩, -⟩ := cells4 HS1.out.2.2
 obtain ⟨a0, a1, a2, a3⟩ := HC0.out _ _ HS1.out
 go_wp2_with (fail)
 refine (H1.out _ HS1.out).mono ?_
 rintro en w2 ⟨rfl, hA1, hW1⟩
 have HS2 := Lib.hid (HS1.out.next hNl hA1 hW1)
 clear hA1 hW1 a0 a1 a2 a3 c0 c1 c2 c3
 obtain ⟨⟨c0, c1, c2, c3⟩, -⟩ := cells4 HS2.out.2.2
 go_wp2_with (fail)
 refine (H2.out _ _ rfl HS2.out).mono ?_
 rintro en w3 ⟨rfl, h2⟩
 have HS3 := Lib.hid h2
 clear h2 c0 c1 c2 c3
 obtain ⟨⟨c0, c1, c2, c3⟩, -⟩ := cells4 HS3.out.2.2
 obtain ⟨a0, a1, a2, a3⟩ := HC1.out _ _ HS3.out
 go_wp2_with (fail)
 refine (H3.out _ HS3.out).mono ?_
 rintro en w4 ⟨rfl, hA3, hW3⟩
 have HS4 := Lib.hid (HS3.out.next hNl hA3 hW3)
 clear hA3 hW3 a0 a1 a2 a3 c0 c1 c2 c3
 obtain ⟨⟨c0, c1, c2, c3⟩, -⟩ := cells4 HS4.out.2.2
 go_wp2_with (fail)
 refine (D4.out _ HS4.out).mono ?_
 rintro en wd4 ⟨rfl, hbd4⟩
 have HD4 := Lib.hid (HS4.out.quiet hbd4)
 clear hbd4 c0 c1 c2 c3
 go_wp2_with (fail)
 refine (H4.out _ _ rfl HD4.out).mono ?_
 rintro en w5 ⟨rfl, h4⟩
 have HS5 := Lib.hid h4
 clear h4
 obtain ⟨⟨c0, c1, c2, c3⟩, -⟩ := cells4 HS5.out.2.2
 go_wp2_with (fail)
 go_end0
 rw [ES.out]
 exact st_end HS5.out

set_option maxRecDepth 10000 in
set_option maxHeartbeats 6400000 in
theorem typ_3 (w0 : World) (N m : Nat) (hN0 : w0.heap.size ≤ N) (hnl : NumLaid w0) (hT : TypOf w0 N m) (t : RT) (v : Int) (e : List At) (pe : Option Addr) (ne ce : Nat) (p : Option Addr) (l c : Nat) (ss : List ByteArray) (w : World) (hm : wt t ≤ m + 1) (hok : mayT t = true) (hef : allT (effB 1000) t = true) (hI : RtIs w0 ⟨3, v, e⟩ pe ne ce p l c t) (hb : Below w0.heap.size w0 w) (hW : WAt N ss w) (hz : ss.length + 8 * wt t ≤ 1000000) :
  Calls Tryz.prog 130 #[.pointer (some ⟨N, 0, none⟩), .agg #[.int .u8 3, .int .i64 v, .slice pe ne ce, .slice p l c]] w (WEnd N (ss ++ wordsT t) w) := by
 have hNl := hW.lt
 have hlen := hI.len
 have hnode := (may_node hok).1
 rw [hI.head] at hnode
 have hcap := hI.cap
 have hef2 := hef
 rw [allT_eq, Bool.and_eq_true, hI.head] at hef2
 have hv0 := (may_node hok).2.1
 rw [hI.head] at hv0
 have hv1 := hI.ok.r
 simp only at hv0 hv1
 obtain rfl : l = 1 := by
  simp at hnode; omega
 obtain ⟨b, o, rfl, hk⟩ := kid_at hI (by omega)
 obtain ⟨qe0, de0, q0, d0, hI0, hc0⟩ := hk 0 (by omega)
 have ok0 := may_kid hok (i := 0) (by omega)
 have ef0 := allK_get _ (j := 0) (by omega) hef2.2
 have wl0 := words_le ok0
 rw [show o + 0 * 4 = o from by omega] at hc0
 have hww := wt1 (t := t) (by omega)
 have es : ss ++ wordsT t = ss ++ [wOpen] ++ [wRef] ++ wordsT (tget t.ks 0) ++ [wAt, digs v, wShut] := by
  rw [wordsT_eq, hI.head]
  unfold comb
  simp [kw_get (show 0 < t.ks.length by omega)]
 have hp0 := fun W M hM hSt => put_n (cs := #[.int .u8 3, .int .i64 v, .slice pe ne ce, .slice (some ⟨b, o, none⟩) 1 c]) hNl [wOpen] W M 1 (ss) hM rfl hSt (by have := wt_pos t; simp; omega)
 have hp1 := fun W M hM hSt => put_n (cs := #[.int .u8 3, .int .i64 v, .slice pe ne ce, .slice (some ⟨b, o, none⟩) 1 c]) hNl [wRef] W M 1 (ss ++ [wOpen]) hM rfl hSt (by have := wt_pos t; simp; omega)
 have hp2 := fun W (hSt : St N w (.cells #[.int .u8 3, .int .i64 v, .slice pe ne ce, .slice (some ⟨b, o, none⟩) 1 c] 28 (0, 0)) (ss ++ [wOpen] ++ [wRef]) W) => hT (tget t.ks 0) _ qe0 _ de0 q0 _ d0 (ss ++ [wOpen] ++ [wRef]) W (by omega) ok0 ef0 hI0 (hSt.low hb hN0) hSt.1 (by simp; omega)
 have hp3 := fun W M hM hSt => put_n (cs := #[.int .u8 3, .int .i64 v, .slice pe ne ce, .slice (some ⟨b, o, none⟩) 1 c]) hNl [wAt, digs v, wShut] W M 3 (ss ++ [wOpen] ++ [wRef] ++ wordsT (tget t.ks 0)) hM rfl hSt (by have := wt_pos t; simp; omega)
 have hd3 := fun W (hSt : St N w (.cells #[.int .u8 3, .int .i64 v, .slice pe ne ce, .slice (some ⟨b, o, none⟩) 1 c] 28 (0, 0)) (ss ++ [wOpen] ++ [wRef] ++ wordsT (tget t.ks 0)) W) => Effect.digitsOf_walk v hv1.1 hv1.2 W (hnl.below (hSt.low hb hN0))
 have hc0' := fun W ss' (hSt : St N w (.cells #[.int .u8 3, .int .i64 v, .slice pe ne ce, .slice (some ⟨b, o, none⟩) 1 c] 28 (0, 0)) ss' W) => hc0 W (hSt.low hb hN0)
 have hin := inRegion_walk ⟨3, v, e⟩ pe ne ce (some ⟨b, o, none⟩) 1 c
 simp only at hin
 have hs := St.start (.cells #[.int .u8 3, .int .i64 v, .slice pe ne ce, .slice (some ⟨b, o, none⟩) 1 c] 28 (0, 0)) hW
 have ES := Lib.hid es; have HS := Lib.hid hs; have HIN := Lib.hid hin; have H0 := Lib.hid hp0; have H1 := Lib.hid hp1; have H2 := Lib.hid hp2; have H3 := Lib.hid hp3; have D3 := Lib.hid hd3; have HC0 := Lib.hid hc0'
 have hcl : c ≤ 9223372036854775807 := hcap.2
 have hcq := hcap.1
 clear es hs hin hp0 hp1 hp2 hp3 hd3 hc0' hc0 hI0 ok0 ef0 wl0 hlen hnode hcap hT hI hb hW hok hm hz hef hef2 hnl hv0 hv1 hww hk
 generalize hdg : digs v = dv at *
 clear hdg
 go_enter Tryz.func130, Tryz.ntmps130
 go_wp2_with (fail)
 refine (HIN.out _).mono ?_
 rintro en w0' ⟨rfl, hb0'⟩
 have HSA := Lib.hid (HS.out.quiet hb0')
 clear hb0'
 rw [show decide ((3 : Int) ≠ 1) = true from by decide]
 obtain ⟨⟨c0, c1, c2, c3⟩, -⟩ := cells4 HSA.out.2.2
 go_wp2_with (fail)
 refine (H0.out _ _ rfl HSA.out).mono ?_
 rintro en w1 ⟨rfl, h0⟩
 have HS1 := Lib.hid h0
 clear h0 c0 c1 c2 c3
 obtain ⟨⟨c0, c1, c2, c3⟩, -⟩ := cells4 HS1.out.2.2
 go_wp2_with (fail)
 refine (H1.out _ _ rfl HS1.out).mono ?_
 rintro en w2 ⟨rfl, h1⟩
 have HS2 := Lib.hid h1
 clear h1 c0 c1 c2 c3
 obtain ⟨⟨c0, c1, c2, c3⟩, -⟩ := cells4 HS2.out.2.2
 obtain ⟨a0, a1, a2, a3⟩ := HC0.out _ _ HS2.out
 go_wp2_with (fail)
 refine (H2.out _ HS2.out).mono ?_
 rintro en w3 ⟨rfl, hA2, hW2⟩
 have HS3 := Lib.hid (HS2.out.next hNl hA2 hW2)
 clear hA2 hW2 a0 a1 a2 a3 c0 c1 c2 c3
 obtain ⟨⟨c0, c1, c2, c3⟩, -⟩ := cells4 HS3.out.2.2
 go_wp2_with (fail)
 refine (D3.out _ HS3.out).mono ?_
 rintro en wd3 ⟨rfl, hbd3⟩
 have HD3 := Lib.hid (HS3.out.quiet hbd3)
 clear hbd3 c0 c1 c2 c3
 go_wp2_with (fail)
 refine (H3.out _ _ rfl HD3.out).mono ?_
 rintro en w4 ⟨rfl, h3⟩
 have HS4 := Lib.hid h3
 clear h3
 obtain ⟨⟨c0, c1, c2, c3⟩, -⟩ := cells4 HS4.out.2.2
 go_wp2_with (fail)
 go_end0
 rw [ES.out]
 exact st_end HS4.out

set_option maxRecDepth 10000 in
set_option maxHeartbeats 6400000 in
theorem typ_4 (w0 : World) (N m : Nat) (hN0 : w0.heap.size ≤ N) (hnl : NumLaid w0) (hT : TypOf w0 N m) (t : RT) (v : Int) (e : List At) (pe : Option Addr) (ne ce : Nat) (p : Option Addr) (l c : Nat) (ss : List ByteArray) (w : World) (hm : wt t ≤ m + 1) (hok : mayT t = true) (hef : allT (effB 1000) t = true) (hI : RtIs w0 ⟨4, v, e⟩ pe ne ce p l c t) (hb : Below w0.heap.size w0 w) (hW : WAt N ss w) (hz : ss.length + 8 * wt t ≤ 1000000) :
  Calls Tryz.prog 130 #[.pointer (some ⟨N, 0, none⟩), .agg #[.int .u8 4, .int .i64 v, .slice pe ne ce, .slice p l c]] w (WEnd N (ss ++ wordsT t) w) := by
 have hNl := hW.lt
 have hlen := hI.len
 have hnode := (may_node hok).1
 rw [hI.head] at hnode
 have hcap := hI.cap
 have hef2 := hef
 rw [allT_eq, Bool.and_eq_true, hI.head] at hef2
 have hv0 := (may_node hok).2.1
 rw [hI.head] at hv0
 have hv1 := hI.ok.r
 simp only at hv0 hv1
 obtain rfl : l = 2 := by
  simp at hnode; omega
 obtain ⟨b, o, rfl, hk⟩ := kid_at hI (by omega)
 obtain ⟨qe0, de0, q0, d0, hI0, hc0⟩ := hk 0 (by omega)
 have ok0 := may_kid hok (i := 0) (by omega)
 have ef0 := allK_get _ (j := 0) (by omega) hef2.2
 have wl0 := words_le ok0
 rw [show o + 0 * 4 = o from by omega] at hc0
 obtain ⟨qe1, de1, q1, d1, hI1, hc1⟩ := hk 1 (by omega)
 have ok1 := may_kid hok (i := 1) (by omega)
 have ef1 := allK_get _ (j := 1) (by omega) hef2.2
 have wl1 := words_le ok1
 rw [show o + 1 * 4 = o + 4 from by omega] at hc1
 have hww := wt2 (t := t) (by omega)
 have es : ss ++ wordsT t = ss ++ [wOpen] ++ wordsT (tget t.ks 0) ++ [wArrow] ++ wordsT (tget t.ks 1) ++ [wBang, textE (ofA e)] ++ [wAt, digs v, wShut] := by
  rw [wordsT_eq, hI.head]
  unfold comb
  simp [kw_get (show 0 < t.ks.length by omega), kw_get (show 1 < t.ks.length by omega)]
 have hp0 := fun W M hM hSt => put_n (cs := #[.int .u8 4, .int .i64 v, .slice pe ne ce, .slice (some ⟨b, o, none⟩) 2 c]) hNl [wOpen] W M 1 (ss) hM rfl hSt (by have := wt_pos t; simp; omega)
 have hp1 := fun W (hSt : St N w (.cells #[.int .u8 4, .int .i64 v, .slice pe ne ce, .slice (some ⟨b, o, none⟩) 2 c] 28 (0, 0)) (ss ++ [wOpen]) W) => hT (tget t.ks 0) _ qe0 _ de0 q0 _ d0 (ss ++ [wOpen]) W (by omega) ok0 ef0 hI0 (hSt.low hb hN0) hSt.1 (by simp; omega)
 have hp2 := fun W M hM hSt => put_n (cs := #[.int .u8 4, .int .i64 v, .slice pe ne ce, .slice (some ⟨b, o, none⟩) 2 c]) hNl [wArrow] W M 1 (ss ++ [wOpen] ++ wordsT (tget t.ks 0)) hM rfl hSt (by have := wt_pos t; simp; omega)
 have hp3 := fun W (hSt : St N w (.cells #[.int .u8 4, .int .i64 v, .slice pe ne ce, .slice (some ⟨b, o, none⟩) 2 c] 28 (0, 0)) (ss ++ [wOpen] ++ wordsT (tget t.ks 0) ++ [wArrow]) W) => hT (tget t.ks 1) _ qe1 _ de1 q1 _ d1 (ss ++ [wOpen] ++ wordsT (tget t.ks 0) ++ [wArrow]) W (by omega) ok1 ef1 hI1 (hSt.low hb hN0) hSt.1 (by simp; omega)
 have hp4 := fun W M hM hSt => put_n (cs := #[.int .u8 4, .int .i64 v, .slice pe ne ce, .slice (some ⟨b, o, none⟩) 2 c]) hNl [wBang, textE (ofA e)] W M 2 (ss ++ [wOpen] ++ wordsT (tget t.ks 0) ++ [wArrow] ++ wordsT (tget t.ks 1)) hM rfl hSt (by have := wt_pos t; simp; omega)
 have hd4 := fun W (hSt : St N w (.cells #[.int .u8 4, .int .i64 v, .slice pe ne ce, .slice (some ⟨b, o, none⟩) 2 c] 28 (0, 0)) (ss ++ [wOpen] ++ wordsT (tget t.ks 0) ++ [wArrow] ++ wordsT (tget t.ks 1)) W) => Effect.text_walk (c := ce) (hI.eff.below (hSt.low hb hN0)).rd (by rw [← hI.elen]; exact (eff_iff.1 hef2.1).1) (sh_eff hI.ok.e (eff_iff.1 hef2.1).2 (Nat.le_refl _)) (hnl.below (hSt.low hb hN0))
 have hp5 := fun W M hM hSt => put_n (cs := #[.int .u8 4, .int .i64 v, .slice pe ne ce, .slice (some ⟨b, o, none⟩) 2 c]) hNl [wAt, digs v, wShut] W M 3 (ss ++ [wOpen] ++ wordsT (tget t.ks 0) ++ [wArrow] ++ wordsT (tget t.ks 1) ++ [wBang, textE (ofA e)]) hM rfl hSt (by have := wt_pos t; simp; omega)
 have hd5 := fun W (hSt : St N w (.cells #[.int .u8 4, .int .i64 v, .slice pe ne ce, .slice (some ⟨b, o, none⟩) 2 c] 28 (0, 0)) (ss ++ [wOpen] ++ wordsT (tget t.ks 0) ++ [wArrow] ++ wordsT (tget t.ks 1) ++ [wBang, textE (ofA e)]) W) => Effect.digitsOf_walk v hv1.1 hv1.2 W (hnl.below (hSt.low hb hN0))
 have hc0' := fun W ss' (hSt : St N w (.cells #[.int .u8 4, .int .i64 v, .slice pe ne ce, .slice (some ⟨b, o, none⟩) 2 c] 28 (0, 0)) ss' W) => hc0 W (hSt.low hb hN0)
 have hc1' := fun W ss' (hSt : St N w (.cells #[.int .u8 4, .int .i64 v, .slice pe ne ce, .slice (some ⟨b, o, none⟩) 2 c] 28 (0, 0)) ss' W) => hc1 W (hSt.low hb hN0)
 have hin := inRegion_walk ⟨4, v, e⟩ pe ne ce (some ⟨b, o, none⟩) 2 c
 simp only at hin
 have hs := St.start (.cells #[.int .u8 4, .int .i64 v, .slice pe ne ce, .slice (some ⟨b, o, none⟩) 2 c] 28 (0, 0)) hW
 have ES := Lib.hid es; have HS := Lib.hid hs; have HIN := Lib.hid hin; have H0 := Lib.hid hp0; have H1 := Lib.hid hp1; have H2 := Lib.hid hp2; have H3 := Lib.hid hp3; have H4 := Lib.hid hp4; have D4 := Lib.hid hd4; have H5 := Lib.hid hp5; have D5 := Lib.hid hd5; have HC0 := Lib.hid hc0'; have HC1 := Lib.hid hc1'
 have hcl : c ≤ 9223372036854775807 := hcap.2
 have hcq := hcap.1
 clear es hs hin hp0 hp1 hp2 hp3 hp4 hd4 hp5 hd5 hc0' hc0 hI0 ok0 ef0 wl0 hc1' hc1 hI1 ok1 ef1 wl1 hlen hnode hcap hT hI hb hW hok hm hz hef hef2 hnl hv0 hv1 hww hk
 generalize hdg : digs v = dv at *
 generalize hte : textE (ofA e) = te at *
 clear hdg hte
 go_enter Tryz.func130, Tryz.ntmps130
 go_wp2_with (fail)
 refine (HIN.out _).mono ?_
 rintro en w0' ⟨rfl, hb0'⟩
 have HSA := Lib.hid (HS.out.quiet hb0')
 clear hb0'
 rw [show decide ((4 : Int) ≠ 1) = true from by decide]
 obtain ⟨⟨c0, c1, c2, c3⟩, -⟩ := cells4 HSA.out.2.2
 go_wp2_with (fail)
 refine (H0.out _ _ rfl HSA.out).mono ?_
 rintro en w1 ⟨rfl, h0⟩
 have HS1 := Lib.hid h0
 clear h0 c0 c1 c2 c3
 obtain ⟨⟨c0, c1, c2, c3⟩, -⟩ := cells4 HS1.out.2.2
 obtain ⟨a0, a1, a2, a3⟩ := HC0.out _ _ HS1.out
 go_wp2_with (fail)
 refine (H1.out _ HS1.out).mono ?_
 rintro en w2 ⟨rfl, hA1, hW1⟩
 have HS2 := Lib.hid (HS1.out.next hNl hA1 hW1)
 clear hA1 hW1 a0 a1 a2 a3 c0 c1 c2 c3
 obtain ⟨⟨c0, c1, c2, c3⟩, -⟩ := cells4 HS2.out.2.2
 go_wp2_with (fail)
 refine (H2.out _ _ rfl HS2.out).mono ?_
 rintro en w3 ⟨rfl, h2⟩
 have HS3 := Lib.hid h2
 clear h2 c0 c1 c2 c3
 obtain ⟨⟨c0, c1, c2, c3⟩, -⟩ := cells4 HS3.out.2.2
 obtain ⟨a0, a1, a2, a3⟩ := HC1.out _ _ HS3.out
 go_wp2_with (fail)
 refine (H3.out _ HS3.out).mono ?_
 rintro en w4 ⟨rfl, hA3, hW3⟩
 have HS4 := Lib.hid (HS3.out.next hNl hA3 hW3)
 clear hA3 hW3 a0 a1 a2 a3 c0 c1 c2 c3
 obtain ⟨⟨c0, c1, c2, c3⟩, -⟩ := cells4 HS4.out.2.2
 go_wp2_with (fail)
 refine (D4.out _ HS4.out).mono ?_
 rintro en wd4 ⟨rfl, hbd4⟩
 have HD4 := Lib.hid (HS4.out.quiet hbd4)
 clear hbd4 c0 c1 c2 c3
 go_wp2_with (fail)
 refine (H4.out _ _ rfl HD4.out).mono ?_
 rintro en w5 ⟨rfl, h4⟩
 have HS5 := Lib.hid h4
 clear h4
 obtain ⟨⟨c0, c1, c2, c3⟩, -⟩ := cells4 HS5.out.2.2
 go_wp2_with (fail)
 refine (D5.out _ HS5.out).mono ?_
 rintro en wd5 ⟨rfl, hbd5⟩
 have HD5 := Lib.hid (HS5.out.quiet hbd5)
 clear hbd5 c0 c1 c2 c3
 go_wp2_with (fail)
 refine (H5.out _ _ rfl HD5.out).mono ?_
 rintro en w6 ⟨rfl, h5⟩
 have HS6 := Lib.hid h5
 clear h5
 obtain ⟨⟨c0, c1, c2, c3⟩, -⟩ := cells4 HS6.out.2.2
 go_wp2_with (fail)
 go_end0
 rw [ES.out]
 exact st_end HS6.out

theorem typ_all (w0 : World) (N : Nat) (hN : w0.heap.size ≤ N) (hnl : NumLaid w0) : ∀ m, TypOf w0 N m := by
 intro m
 induction m with
 | zero =>
  intro t h pe ne ce p l c ss w hm
  have := wt_pos t
  omega
 | succ m ih =>
  intro t h pe ne ce p l c ss w hm hok hef hI hb hW hz
  have hk := (may_node hok).1
  rw [hI.head] at hk
  obtain ⟨k, v, e⟩ := h
  simp only at hk
  have hh : k = 1 ∨ k = 2 ∨ k = 3 ∨ k = 4 := by omega
  rcases hh with rfl | rfl | rfl | rfl
  ·exact typ_1 w0 N m hN hnl ih t v e pe ne ce p l c ss w hm hok hef hI hb hW hz
  ·exact typ_2 w0 N m hN hnl ih t v e pe ne ce p l c ss w hm hok hef hI hb hW hz
  ·exact typ_3 w0 N m hN hnl ih t v e pe ne ce p l c ss w hm hok hef hI hb hW hz
  ·exact typ_4 w0 N m hN hnl ih t v e pe ne ce p l c ss w hm hok hef hI hb hW hz
end Rt
end Go.Proofs.YtkfkpjngiffamaaGreatDoor
namespace Go.Proofs.YtkfkpjngiffamaaGreatDoor
open Go.RowKit
set_option linter.unusedVariables false
set_option linter.unusedSimpArgs false
namespace Rt
open Effect (At AtOk AtsAt Rd ofA ret_i64 ret_bool lt_of_block heap_alloc_new textE digs NumLaid own_slice)
open Types (jb jb_list)

def textS (t : RT) : ByteArray := if mayT t = true then jb (wordsT t) else ⟨#[]⟩
def errE (t : RT) : Int := if mayT t = true then 0 else 1
def TextEnd (t : RT) (w : World) (e : Ending) (w' : World) : Prop := e = .returned (.tuple #[.string (textS t), .int .i64 (errE t)]) ∧ Below w.heap.size w w'
theorem text_no {t : RT} (h : mayT t = false) : textS t = ⟨#[]⟩ ∧ errE t = 1 := by unfold textS errE; rw [h]; exact ⟨rfl, rfl⟩
theorem text_yes {t : RT} (h : mayT t = true) : textS t = jb (wordsT t) ∧ errE t = 0 := by unfold textS errE; rw [h]; exact ⟨rfl, rfl⟩
theorem wrote_low {N : Nat} {a w W : World} (h : Wrote N w W) {B : Nat} (hb : Below B a w) (hB : B ≤ N) (hw : B ≤ a.heap.size) : Below B a W :=
 ⟨h.os.trans hb.os, h.tape.trans hb.tape, h.output.trans hb.output, Nat.le_trans hb.size h.size, fun k hk => (h.low k (Nat.lt_of_lt_of_le (Nat.lt_of_lt_of_le hk hw) hb.size) (by omega)).trans (hb.block k hk)⟩
theorem eff_more {n m : Nat} (hnm : n ≤ m) {t : RT} (h : allT (effB n) t = true) : allT (effB m) t = true :=
 (all_imp (fun h l hh => eff_iff.2 ⟨Nat.le_trans (eff_iff.1 hh).1 hnm, fun x hx => Nat.le_trans ((eff_iff.1 hh).2 x hx) hnm⟩) _).1 t (Nat.le_refl _) h
theorem own_at {w : World} {base e size n c : Nat} {a : Option Addr} {xs : List Value} (h : w.ownsRow base e size (.slice a n c) n xs) (hn : 0 < n) : ∃ g, a = some ⟨g, 0, none⟩ ∧ base ≤ g := by
 rcases h.2 with ⟨_, h0⟩ | ⟨g, cap, _, hv, hg, _⟩
 ·omega
 ·injection hv with hv; exact ⟨g, hv, hg⟩
set_option maxRecDepth 10000 in
set_option maxHeartbeats 12800000 in
theorem text_walk (t : RT) (h : Hd) (pe : Option Addr) (ne ce : Nat) (p : Option Addr) (l c : Nat) (w : World) (hT : RtIs w h pe ne ce p l c t) (hw : wt t ≤ 100000) (hef : allT (effB 1000) t = true) (hsz : mayT t = true → (jb (wordsT t)).size ≤ 100000000) (hn : NumLaid w) :
  Calls Tryz.prog 112 #[.agg #[.int .u8 h.k, .int .i64 h.r, .slice pe ne ce, .slice p l c]] w (TextEnd t w) := by
 have hmay := fun O : Obj => may_walk [t] (some ⟨(w.alloc O).heap.size, 0, none⟩) 1 1 ((w.alloc O).alloc (.cells #[.int .u8 h.k, .int .i64 h.r, .slice pe ne ce, .slice p l c] 28)) rfl one_le (kids_one (hT.below (box_new O)) 28 _ rfl) (by rw [allK_one]; exact eff_more (by omega) hef)
 have hsm : ∀ O : Obj, (w.alloc O).heap.size = w.heap.size + 1 := fun O => by simp
 simp only [hsm] at hmay
 have hmk : mayK [t] = mayT t := allK_one _ t
 rw [hmk] at hmay
 obtain ⟨k, v, e⟩ := h
 have HM := Lib.hid hmay; have HT := Lib.hid hT; have HN := Lib.hid hn; have HW := Lib.hid hw; have HEF := Lib.hid hef; have HSZ := Lib.hid hsz
 clear hmay hT hn hw hef hsz hsm hmk
 go_enter Tryz.func112, Tryz.ntmps112
 go_wp2_with (fail)
 refine (HM.out _).mono ?_
 rintro en w1 ⟨rfl, hb1⟩
 have hX1 := (hb1.block w.heap.size (by simp; omega)).trans (((box_new _).block _ (by simp)).trans (heap_alloc_new w (.cells #[.int .u8 k, .int .i64 v, .slice pe ne ce, .slice p l c] 28)))
 have hB1 : Below w.heap.size w w1 := (box_new _).trans (((box_new _).trans (hb1.mono (by simp))).mono (by simp))
 have HB1 := Lib.hid hB1; have HX1 := Lib.hid hX1
 clear hb1 hB1 hX1
 cases hmt : mayT t
 ·obtain ⟨e1, e2⟩ := text_no hmt
  have HE := Lib.hid (And.intro e1 e2)
  clear hmt e1 e2
  go_wp2_with (fail)
  refine bodyPost_ret (v := .tuple #[.string ⟨#[]⟩, .int .i64 1]) (by simp [results, Tryz.results112, go_sem]) rfl ?_
  exact ⟨by rw [HE.out.1, HE.out.2], HB1.out⟩
 ·obtain ⟨e1, e2⟩ := text_yes hmt
  have hwl := words_le hmt
  have hpos := (words_pos _ t (Nat.le_refl _) hmt).1
  have hwt := HW.out
  have hcall := fun W hA hb => typ_all w1 w1.heap.size (Nat.le_refl _) (HN.out.below HB1.out) (wt t) t ⟨k, v, e⟩ pe ne ce p l c [] W (Nat.le_refl _) hmt HEF.out (HT.out.below HB1.out) hb hA (by simp; omega)
  have hA0 : WAt w1.heap.size [] (w1.alloc (.cells #[.slice none 0 0] 166)) := ⟨_, heap_alloc_new w1 _, World.ownsRow_nil _ _ _ _⟩
  have hle : (wordsT t).length ≤ 1000000 := by omega
  have hbd := HSZ.out hmt
  have HE := Lib.hid (And.intro e1 e2); have HC := Lib.hid hcall; have HA0 := Lib.hid hA0; have HLE := Lib.hid (And.intro hpos (And.intro hle hbd))
  obtain ⟨⟨c0, c1, c2, c3⟩, -⟩ := cells4 HX1.out
  have hlt := lt_of_block HX1.out
  clear hmt e1 e2 hwl hpos hwt hcall hA0 hle hbd
  go_wp2_with (fail)
  refine (HC.out _ HA0.out (box_new _)).mono ?_
  rintro en w5 ⟨rfl, hA5, hW5⟩
  rw [List.nil_append] at hA5
  obtain ⟨vv, hv5, hown⟩ := hA5
  obtain ⟨va, vc, hvv, _, hcap⟩ := own_slice hown
  subst hvv
  obtain ⟨g, rfl, hg⟩ := own_at hown (by have := HLE.out.1; omega)
  have e0 : w5.cell? ⟨w1.heap.size, 0, none⟩ = some (.slice (some ⟨g, 0, none⟩) (wordsT t).length vc) := by simp [World.cell?, hv5]
  have el := lt_of_block hv5
  have hcells : ∀ (j : Nat) x, (wordsT t)[j]? = some x → w5.cell? ⟨g, 0 + j, none⟩ = some (.string x) := by
   intro j x hx
   have := hown.cells (g := g) rfl j (.string x) (by rw [List.getElem?_map, hx]; rfl)
   rw [Addr.add_lit] at this
   exact this
  have hgl := (hown.lt g rfl).2
  have hle := HLE.out.2.1
  have hbd := HLE.out.2.2
  have hjoin := Tryz.strings_Join g 0 vc (wordsT t) ⟨#[32]⟩ w5 hcells hgl (by omega) hcap (by have e : (jb (wordsT t)).size = (Lib.join ((wordsT t).map (·.data.toList)) [32]).length := (by rw [← jb_list]; rfl); rw [e] at hbd; show (Lib.join _ [32]).length ≤ _; omega)
  have hB5 : Below w.heap.size w w5 := wrote_low hW5 (HB1.out.alloc HB1.out.size _) HB1.out.size (Nat.le_refl _)
  have HJ := Lib.hid hjoin; have HB5 := Lib.hid hB5
  clear hv5 hown hcells hgl hbd hle hjoin hW5 hcap hg hB5 c0 c1 c2 c3
  generalize (wordsT t).length = L at *
  go_wp2_with (fail)
  refine HJ.out.mono ?_
  rintro en w6 ⟨rfl, hb6⟩
  have HB6 := Lib.hid (below_then HB5.out hb6 HB5.out.size)
  clear hb6 e0 el
  go_wp2_with (fail)
  refine bodyPost_ret (v := .tuple #[.string ⟨(Lib.join (List.map (fun x => x.data.toList) (wordsT t)) [32]).toArray⟩, .int .i64 0]) (by simp [results, Tryz.results112, go_sem]) rfl ?_
  exact ⟨by rw [HE.out.1, HE.out.2]; rfl, HB6.out⟩
end Rt
end Go.Proofs.YtkfkpjngiffamaaGreatDoor
namespace Go.Proofs.YtkfkpjngiffamaaGreatDoor
open Go.RowKit
set_option linter.unusedVariables false
set_option linter.unusedSimpArgs false
namespace Aterm
open Rt (box_new box_at below_then)
open Effect (ret_bool ret_i64 lt_of_block heap_alloc_new)

structure Tch (P : Nat → Option Obj → Prop) (w w' : World) : Prop where
 os : w'.os = w.os
 tape : w'.tape = w.tape
 output : w'.output = w.output
 size : w.heap.size ≤ w'.heap.size
 block : ∀ k, k < w.heap.size → ¬ P k w.heap[k]? → w'.heap[k]? = w.heap[k]?
section
variable {P : Nat → Option Obj → Prop}
theorem Tch.refl (w : World) : Tch P w w := ⟨rfl, rfl, rfl, Nat.le_refl _, fun _ _ _ => rfl⟩
theorem Tch.trans {a b c : World} (h : Tch P a b) (k : Tch P b c) : Tch P a c :=
 ⟨k.os.trans h.os, k.tape.trans h.tape, k.output.trans h.output, Nat.le_trans h.size k.size, fun i hi hn => by
  have h1 := h.block i hi hn
  exact (k.block i (Nat.lt_of_lt_of_le hi h.size) (by rw [h1]; exact hn)).trans h1⟩
theorem Tch.of_below {w w' : World} (hb : Below w.heap.size w w') : Tch P w w' := ⟨hb.os, hb.tape, hb.output, hb.size, fun i hi _ => hb.block i hi⟩
theorem Tch.alloc {a w : World} (h : Tch P a w) (O : Obj) : Tch P a (w.alloc O) := h.trans (Tch.of_below (box_new O))
theorem Tch.drew {a w : World} (h : Tch P a w) : Tch P a w.drew := ⟨h.os, h.tape, h.output, h.size, h.block⟩
theorem Tch.below {w w' a : World} {B : Nat} (h : Tch P w w') (hP : ∀ k O, k < B → ¬ P k O) (ha : Below B a w) (hB : B ≤ a.heap.size) : Below B a w' :=
 ⟨h.os.trans ha.os, h.tape.trans ha.tape, h.output.trans ha.output, Nat.le_trans ha.size h.size, fun k hk => (h.block k (by have := ha.size; omega) (hP k _ hk)).trans (ha.block k hk)⟩
theorem Tch.range {w w' : World} (h : Tch P w w') {b o : Nat} {cs : List Value} (hr : w.rangeAt b o cs) (hn : ¬ P b w.heap[b]?) : w'.rangeAt b o cs := fun j v hv => by
 have h1 := hr j v hv
 have hlt : b < w.heap.size := World.block_lt_of_cell? w ⟨b, o + j, none⟩ h1
 rw [World.cell?_of_block (w := w) (a := ⟨b, o + j, none⟩) (h.block b hlt hn)]
 exact h1
theorem Tch.box {w w' : World} (h : Tch P w w') {N : Nat} {hd : Hd} {v : V} {l : Nat} (k : Box w N hd v l) (hn : ¬ P N w.heap[N]?) : Box w' N hd v l := by
 have hlt : N < w.heap.size := World.block_lt_of_cell? w _ k.1
 have hb := h.block N hlt hn
 unfold Box at *
 simp only [World.cell?_of_block (w := w) (w' := w') (a := ⟨N, _, none⟩) hb]
 exact k
end
structure Goes {σ : Type} (w0 : World) (P : Nat → Option Obj → Prop) (I : Nat → σ → World → Prop) : Prop where
 low : ∀ k O, k < w0.heap.size → ¬ P k O
 new : ∀ r s W, I r s W → ∀ cs fz, ¬ P W.heap.size (some (.cells cs 31 fz))
 keep : ∀ r s W W', I r s W → Below W.heap.size W W' → I r s W'
 less : ∀ r r' s W, I r s W → r' ≤ r → I r' s W
def FoEnd {σ : Type} (P : Nat → Option Obj → Prop) (I : σ → World → Prop) (r : Bool × σ) (w : World) (e : Ending) (w' : World) : Prop := e = .returned (.bool r.1) ∧ I r.2 w' ∧ Tch P w w'
def Steps {σ : Type} (c : Nat) (env : List Value) (B : σ → AT → Bool) (S : σ → AT → σ) (C : Hd → Nat → Bool) (w0 : World) (P : Nat → Option Obj → Prop) (I : Nat → σ → World → Prop) : Prop :=
 ∀ r s W t h v l, I (r + 1) s W → AtIs w0 h v l t → C h l = true → Below w0.heap.size w0 W → Calls Tryz.prog c (Value.agg #[.int .u8 h.h.k, .int .u8 h.h.op, .int .i64 h.h.pl, .int .i64 h.h.n, .string h.h.name, .string h.h.arg, .string h.h.exn, .int .i64 h.rho, .slice v.ra h.rhos.length v.rc, .slice v.ea h.e.length v.ec, .int .u8 h.ty.h.k, .int .i64 h.ty.h.r, .slice v.tea h.ty.h.e.length v.tec, .slice v.tka h.ty.ks.length v.tkc, .int .u8 h.re.h.k, .int .i64 h.re.h.r, .slice v.sea h.re.h.e.length v.sec, .slice v.ska h.re.ks.length v.skc, .slice v.ka l v.kc] :: env).toArray W (FoEnd P (I r) (B s t, S s t) W)
def RowS (w0 W : World) (p : Option Addr) (ts : List AT) : Prop := ∀ i, i < ts.length → ∃ b o v, p = some ⟨b, o, none⟩ ∧ AtIs w0 (tget ts i).h v (tget ts i).ks.length (tget ts i) ∧ W.rangeAt b (o + i * 19) (acells (tget ts i).h v (tget ts i).ks.length)
theorem rowS_kids {w0 W : World} {p : Option Addr} {ts : List AT} (h : Kids w0 p ts) (hb : Below w0.heap.size w0 W) : RowS w0 W p ts := fun i hi => by
 obtain ⟨b, o, v, h1, h2, h3⟩ := h.load i hi
 exact ⟨b, o, v, h1, h2, range_below h3 hb⟩
theorem wts_drop' (ts : List AT) (j : Nat) (hj : j < ts.length) : wts (ts.drop j) = wts (tget ts j).ks + 1 + wts (ts.drop (j + 1)) := by
 rw [wts_drop ts j hj, wt_ks]
theorem at_load_g {ops : Array Oper} {rest : List Oper} {op : Oper} {a : Act} {w : World} {Q : Exit → Act → World → Prop} (hw : Region.wanted op (yielded ops a.tmps) = true) (x : Operand) (ho : op.op = .load 31 x)
  (b o : Nat) (hx : a.eval x = .pointer (some ⟨b, o, none⟩)) {h : Hd} {v : V} {l : Nat} (hr : w.rangeAt b o (acells h v l))
  (k : wpList Tryz.prog ops Q rest (a.put op.dst (.agg #[.int .u8 h.h.k, .int .u8 h.h.op, .int .i64 h.h.pl, .int .i64 h.h.n, .string h.h.name, .string h.h.arg, .string h.h.exn, .int .i64 h.rho, .slice v.ra h.rhos.length v.rc, .slice v.ea h.e.length v.ec, .int .u8 h.ty.h.k, .int .i64 h.ty.h.r, .slice v.tea h.ty.h.e.length v.tec, .slice v.tka h.ty.ks.length v.tkc, .int .u8 h.re.h.k, .int .i64 h.re.h.r, .slice v.sea h.re.h.e.length v.sec, .slice v.ska h.re.ks.length v.skc, .slice v.ka l v.kc])) w) : wpList Tryz.prog ops Q (op :: rest) a w := by
 rw [wpList, if_pos hw]
 exact .inl (wp_load_mid 31 x ho b o hx (acells h v l) _ hr Tryz.underlying31 rfl atInfo k)
theorem at_store {ops : Array Oper} {rest : List Oper} {op : Oper} {a : Act} {w0 : World} {Q : Exit → Act → World → Prop} (hgd : op.guard = none) (x y : Operand) (ho : op.op = .store 31 x y) (c : Array Value) (hc : c.size = 19)
  (h : Hd) (v : V) (l : Nat) (hx : a.eval x = .pointer (some ⟨w0.heap.size, 0, none⟩)) (hy : a.eval y = .agg #[.int .u8 h.h.k, .int .u8 h.h.op, .int .i64 h.h.pl, .int .i64 h.h.n, .string h.h.name, .string h.h.arg, .string h.h.exn, .int .i64 h.rho, .slice v.ra h.rhos.length v.rc, .slice v.ea h.e.length v.ec, .int .u8 h.ty.h.k, .int .i64 h.ty.h.r, .slice v.tea h.ty.h.e.length v.tec, .slice v.tka h.ty.ks.length v.tkc, .int .u8 h.re.h.k, .int .i64 h.re.h.r, .slice v.sea h.re.h.e.length v.sec, .slice v.ska h.re.ks.length v.skc, .slice v.ka l v.kc])
  (k : wpList Tryz.prog ops Q rest (a.put op.dst undef) (w0.alloc (.cells #[.int .u8 h.h.k, .int .u8 h.h.op, .int .i64 h.h.pl, .int .i64 h.h.n, .string h.h.name, .string h.h.arg, .string h.h.exn, .int .i64 h.rho, .slice v.ra h.rhos.length v.rc, .slice v.ea h.e.length v.ec, .int .u8 h.ty.h.k, .int .i64 h.ty.h.r, .slice v.tea h.ty.h.e.length v.tec, .slice v.tka h.ty.ks.length v.tkc, .int .u8 h.re.h.k, .int .i64 h.re.h.r, .slice v.sea h.re.h.e.length v.sec, .slice v.ska h.re.ks.length v.skc, .slice v.ka l v.kc] 31))) : wpList Tryz.prog ops Q (op :: rest) a (w0.alloc (.cells c 31)) :=
 wpList_plain hgd fun _ hK => by
  have hst := run_storeVar_new (P := Tryz.prog) w0 31 c #[.int .u8 h.h.k, .int .u8 h.h.op, .int .i64 h.h.pl, .int .i64 h.h.n, .string h.h.name, .string h.h.arg, .string h.h.exn, .int .i64 h.rho, .slice v.ra h.rhos.length v.rc, .slice v.ea h.e.length v.ec, .int .u8 h.ty.h.k, .int .i64 h.ty.h.r, .slice v.tea h.ty.h.e.length v.tec, .slice v.tka h.ty.ks.length v.tkc, .int .u8 h.re.h.k, .int .i64 h.re.h.r, .slice v.sea h.re.h.e.length v.sec, .slice v.ska h.re.ks.length v.skc, .slice v.ka l v.kc] atInfo hc (all_oneCell_toArray (cs := acells h v l) (fun u hu => by
   simp [acells] at hu
   rcases hu with rfl | rfl | rfl | rfl | rfl | rfl | rfl | rfl | rfl | rfl | rfl | rfl | rfl | rfl | rfl | rfl | rfl | rfl | rfl <;> rfl))
  unfold Oper.wp execOp
  simp only [ho, hx, hy, Instr.storeAt, Instr.sureAddr, Sem.run_bind, Sem.run_pure, Result.andThen_ok, hst]
  exact hK _ _ k
end Aterm
end Go.Proofs.YtkfkpjngiffamaaGreatDoor
namespace Go.Proofs.YtkfkpjngiffamaaGreatDoor
open Go.RowKit
set_option linter.unusedVariables false
set_option linter.unusedSimpArgs false
namespace Aterm
open Rt (box_new box_at below_then)
open Effect (ret_bool ret_i64 lt_of_block heap_alloc_new)

set_option maxRecDepth 10000 in
set_option maxHeartbeats 6400000 in
theorem allMay_walk {σ : Type} (B : σ → AT → Bool) (S : σ → AT → σ) (C : Hd → Nat → Bool) (w0 : World) (P : Nat → Option Obj → Prop) (K0 : Nat) (I : Nat → σ → World → Prop) (hI : Goes w0 P I) (hC : Steps 44 [.pointer (some ⟨K0, 0, none⟩)] B S C w0 P I) :
  ∀ (m : Nat) (ts : List AT) (p : Option Addr) (l d r : Nat) (s : σ) (w : World), wts ts ≤ m → ts.length = l → l ≤ maxLen → (∀ W, Tch P w W → RowS w0 W p ts) → Below w0.heap.size w0 w → allK C ts = true → I (r + wts ts) s w →
  Calls Tryz.prog 43 #[.func (.func 44) #[] #[.pointer (some ⟨K0, 0, none⟩)], .slice p l d] w (FoEnd P (I r) (foK B S ts s) w) := by
 have GI := Lib.hid hI; have GC := Lib.hid hC
 clear hI hC
 intro m
 induction m using Nat.strongRecOn with
 | _ m ih =>
  intro ts p l d r s w hm hl hlm hk hb00 hcc hi
  unfold maxLen at hlm
  have HM := Lib.hid hm; have HL := Lib.hid hl; have HK := Lib.hid hk; have HI := Lib.hid hi; have IH := Lib.hid ih; have HB00 := Lib.hid hb00; have HCC := Lib.hid hcc
  clear hm hl hk hi ih hb00 hcc
  go_enter Tryz.func43, Tryz.ntmps43
  go_wp2_with (fail)
  go_loopw [6, 9] (fun _ i wr => ∃ (j : Nat) (u : σ), j ≤ l ∧ i = .int .i64 j ∧ Hid (foK B S ts s = foK B S (ts.drop j) u) ∧ Hid (I (r + wts (ts.drop j)) u wr) ∧ Hid (Tch P w wr)) (fun _ i _ => l - (intOf i).toNat)
  case atStart => exact ⟨0, s, Nat.zero_le _, rfl, Lib.hid (by rw [List.drop_zero]), Lib.hid (by rw [List.drop_zero]; exact HI.out), Lib.hid (Tch.refl _)⟩
  case round =>
   obtain ⟨j, u, hj, rfl, HF, HJ, HS⟩ := hrel
   by_cases hlt : j < l
   ·have hjk : j < ts.length := by rw [HL.out]; exact hlt
    obtain ⟨b, o, v, rfl, hkid, hrg⟩ := HK.out wr HS.out j hjk
    have hbr : Below w0.heap.size w0 wr := HS.out.below GI.out.low HB00.out (Nat.le_refl _)
    have hcj := allK_get _ hjk HCC.out
    rw [allT_eq, Bool.and_eq_true] at hcj
    have hwd := wts_drop' ts j hjk
    have hwm : wts (tget ts j).ks < wts ts := by have h1 := wts_get hjk; have h2 := wt_ks (tget ts j); omega
    have hin : I ((r + wts (ts.drop (j + 1))) + wts (tget ts j).ks + 1) u wr := GI.out.less _ _ _ _ HJ.out (by omega)
    have hnew := GI.out.new _ _ _ HJ.out
    have HJK := Lib.hid hjk; have HKID := Lib.hid hkid; have HWM := Lib.hid hwm; have HIN := Lib.hid hin; have HRG := Lib.hid hrg; have HBR := Lib.hid hbr; have HCJ := Lib.hid hcj; have HNEW := Lib.hid hnew
    clear hjk hkid hwd hwm hin hrg hbr hcj hnew
    go_upto_region 4 with (first | refine at_load rfl _ rfl b (o + j * 19) rfl HRG.out ?_ | refine at_store rfl _ _ rfl _ rfl (tget ts j).h v (tget ts j).ks.length rfl rfl ?_)
    obtain ⟨W0, hW0⟩ : ∃ W0, W0 = wr.alloc (.cells #[.int .u8 (tget ts j).h.h.k, .int .u8 (tget ts j).h.h.op, .int .i64 (tget ts j).h.h.pl, .int .i64 (tget ts j).h.h.n, .string (tget ts j).h.h.name, .string (tget ts j).h.h.arg, .string (tget ts j).h.h.exn, .int .i64 (tget ts j).h.rho, .slice v.ra (tget ts j).h.rhos.length v.rc, .slice v.ea (tget ts j).h.e.length v.ec, .int .u8 (tget ts j).h.ty.h.k, .int .i64 (tget ts j).h.ty.h.r, .slice v.tea (tget ts j).h.ty.h.e.length v.tec, .slice v.tka (tget ts j).h.ty.ks.length v.tkc, .int .u8 (tget ts j).h.re.h.k, .int .i64 (tget ts j).h.re.h.r, .slice v.sea (tget ts j).h.re.h.e.length v.sec, .slice v.ska (tget ts j).h.re.ks.length v.skc, .slice v.ka (tget ts j).ks.length v.kc] 31) := ⟨_, rfl⟩
    have hbx : Box W0 wr.heap.size (tget ts j).h v (tget ts j).ks.length := by rw [hW0]; exact box_of (w := wr) (h := (tget ts j).h) (v := v) (l := (tget ts j).ks.length)
    have hb0 : Below wr.heap.size wr W0 := by rw [hW0]; exact box_new _
    have hnp : ¬ P wr.heap.size W0.heap[wr.heap.size]? := by
     rw [hW0, heap_alloc_new]
     exact HNEW.out _ _
    rw [← hW0]
    clear hW0
    have HSA := Lib.hid (HS.out.trans (Tch.of_below hb0))
    have HST := Lib.hid (GI.out.keep _ _ _ _ HIN.out hb0); have HBR0 := Lib.hid (below_then HBR.out hb0 HBR.out.size)
    generalize hN0 : wr.heap.size = N0 at hbx hnp ⊢
    have HNP := Lib.hid hnp; have HBX := Lib.hid hbx; have HRB := Lib.hid hbx.range
    clear hb0 hN0 hbx hnp
    go_wp2_with (refine at_load rfl _ rfl N0 0 rfl HRB.out ?_)
    refine (GC.out _ _ _ (tget ts j) (tget ts j).h v (tget ts j).ks.length HST.out HKID.out HCJ.out.1 HBR0.out).mono ?_
    rintro e w1 ⟨rfl, hi1, hs1⟩
    obtain ⟨b0, b1, b2, b3, b4, b5, b6, b7, b8, b9, b10, b11, b12, b13, b14, b15, b16, b17, b18⟩ := hs1.box HBX.out HNP.out
    clear b0 b1 b2 b3 b4 b5 b6 b7 b8 b9 b10 b11 b12 b13 b14 b15 b16 b17
    have HI1 := Lib.hid hi1
    have HS1 := Lib.hid (HSA.out.trans hs1)
    clear hi1 hs1
    cases hb : B u (tget ts j)
    ·have hno := foK_no B S HJK.out hb
     have hi2 := GI.out.less _ r _ _ HI1.out (by omega)
     have HNO := Lib.hid hno; have HB := Lib.hid hb; have HI2 := Lib.hid hi2
     clear hno hb hi2
     go_wp2_with (fail)
     go_ret
     exact ⟨ret_bool (by rw [HF.out, HNO.out]), by rw [HF.out, HNO.out]; exact HI2.out, HS1.out⟩
    ·have HB := Lib.hid hb
     clear hb
     go_wp2_with (fail)
     refine (IH.out (wts (tget ts j).ks) (by have := HWM.out; have := HM.out; omega) (tget ts j).ks v.ka _ v.kc (r + wts (ts.drop (j + 1))) _ _ (Nat.le_refl _) rfl (Nat.le_trans HKID.out.cap.1 HKID.out.cap.2) (fun W hW => rowS_kids HKID.out.kids ((HS1.out.trans hW).below GI.out.low HB00.out (Nat.le_refl _))) (HS1.out.below GI.out.low HB00.out (Nat.le_refl _)) HCJ.out.2 HI1.out).mono ?_
     rintro e w2 ⟨rfl, hi3, hs3⟩
     have HI3 := Lib.hid hi3
     have HS3 := Lib.hid (HS1.out.trans hs3)
     clear hi3 hs3 b18
     cases hk : (foK B S (tget ts j).ks (S u (tget ts j))).1
     ·have hno := foK_kno B S HJK.out HB.out hk
      have hi4 := GI.out.less _ r _ _ HI3.out (by omega)
      have HNO := Lib.hid hno; have HKB := Lib.hid hk; have HI4 := Lib.hid hi4
      clear hno hk hi4
      go_wp2_with (fail)
      go_ret
      exact ⟨ret_bool (by rw [HF.out, HNO.out]), by rw [HF.out, HNO.out]; exact HI4.out, HS3.out⟩
     ·have hyes := foK_yes B S HJK.out HB.out hk
      have HYES := Lib.hid hyes; have HKB := Lib.hid hk
      clear hyes hk
      go_wp2_with (fail)
      go_roundw
      case rel => exact ⟨j + 1, _, by omega, by go_num, Lib.hid (HF.out.trans HYES.out), HI3, HS3⟩
      case measure => simp [intOf]; omega
   ·obtain rfl : j = l := by omega
    have hr := HF.out
    have hi := HJ.out
    rw [List.drop_eq_nil_of_le (by rw [HL.out]; exact Nat.le_refl _)] at hr hi
    rw [foK_nil] at hr
    rw [wts_nil] at hi
    have HR := Lib.hid hr; have HI2 := Lib.hid hi
    clear hr hi
    go_wp2_with (fail)
    go_ret
    exact ⟨ret_bool (by rw [HR.out]), by rw [HR.out]; exact HI2.out, HS.out⟩
end Aterm
end Go.Proofs.YtkfkpjngiffamaaGreatDoor
namespace Go.Proofs.YtkfkpjngiffamaaGreatDoor
open Go.RowKit
set_option linter.unusedVariables false
set_option linter.unusedSimpArgs false
namespace Aterm
open Effect (RdI nget nget_at nget_mem ret_bool ret_i64 lt_of_block heap_alloc_new ofA)
open Rt (box_new box_at below_then)

theorem row_one {w0 W : World} {t : AT} {h : Hd} {v : V} {l g : Nat} (hT : AtIs w0 h v l t) (hr : W.rangeAt g 0 (acells h v l)) : RowS w0 W (some ⟨g, 0, none⟩) [t] := by
 obtain ⟨h1, h2, h3, h4, h5⟩ := hT
 subst h1 h2
 intro i hi
 have hi0 : i = 0 := by simp at hi; omega
 subst hi0
 exact ⟨g, 0, v, rfl, ⟨rfl, rfl, h3, h4, h5⟩, by rw [Nat.zero_mul, Nat.add_zero]; exact hr⟩
theorem allK_of1 (B : Hd → Nat → Bool) (t : AT) : allK B [t] = allT B t := by rw [allK_cons, allK_nil, Bool.and_true]
theorem row_new {W : World} {N : Nat} (hN : N = W.heap.size) {h : Hd} {v : V} {l : Nat} {ty : TypeId} : (W.alloc (.cells #[.int .u8 h.h.k, .int .u8 h.h.op, .int .i64 h.h.pl, .int .i64 h.h.n, .string h.h.name, .string h.h.arg, .string h.h.exn, .int .i64 h.rho, .slice v.ra h.rhos.length v.rc, .slice v.ea h.e.length v.ec, .int .u8 h.ty.h.k, .int .i64 h.ty.h.r, .slice v.tea h.ty.h.e.length v.tec, .slice v.tka h.ty.ks.length v.tkc, .int .u8 h.re.h.k, .int .i64 h.re.h.r, .slice v.sea h.re.h.e.length v.sec, .slice v.ska h.re.ks.length v.skc, .slice v.ka l v.kc] ty)).rangeAt N 0 (acells h v l) := by
 subst hN
 exact box_of.range
end Aterm
end Go.Proofs.YtkfkpjngiffamaaGreatDoor
namespace Go.Proofs.YtkfkpjngiffamaaGreatDoor
open Go.RowKit
set_option linter.unusedVariables false
set_option linter.unusedSimpArgs false
namespace Aterm
open Effect (RdI nget nget_at nget_mem ret_bool ret_i64 lt_of_block heap_alloc_new ofA)
open Rt (box_new box_at below_then)

theorem from1_walk (N : Nat) (x least : Int) (W : World) (hc : W.cell? ⟨N, 0, none⟩ = some (.int .i64 least)) :
  Calls Tryz.prog 101 #[.int .i64 x, .pointer (some ⟨N, 0, none⟩)] W fun e W' => e = .returned (.bool (decide (x < least))) ∧ W' = W := by
 go_enter Tryz.func101, Tryz.ntmps101
 go_wp2
 go_ret
 exact ⟨rfl, rfl⟩
set_option maxRecDepth 10000 in
set_option maxHeartbeats 3200000 in
theorem indexFrom_walk {n c : Nat} {a : Option Addr} {l : List Int} {w : World} (h : RdI w n a l) (hn : n ≤ 100000) (N : Nat) (least : Int) (hc : w.cell? ⟨N, 0, none⟩ = some (.int .i64 least)) :
  Calls Tryz.prog 119 #[.slice a n c, .func (.func 101) #[] #[.pointer (some ⟨N, 0, none⟩)]] w fun e w' => ∃ i : Int, e = .returned (.int .i64 i) ∧ (0 ≤ i ↔ ∃ x ∈ l, x < least) ∧ -1 ≤ i ∧ i ≤ 100000 ∧ w' = w := by
 have H := Lib.hid h; have HC := Lib.hid hc
 clear h hc
 go_enter Tryz.func119, Tryz.ntmps119
 go_wp2_with (fail)
 go_loopw [5, 8] (fun _ i wr => ∃ j : Nat, j ≤ n ∧ i = .int .i64 (j : Int) ∧ Hid (wr = w) ∧ Hid (∀ i, i < j → least ≤ nget l i)) (fun _ i _ => n - (intOf i).toNat)
 case atStart => exact ⟨0, Nat.zero_le _, rfl, Lib.hid rfl, Lib.hid (fun i hi => absurd hi (Nat.not_lt_zero _))⟩
 case round =>
  obtain ⟨j, hj, rfl, HW, HA⟩ := hrel
  by_cases hlt : j < n
  ·have hjl : j < l.length := by rw [H.out.len]; exact hlt
   obtain ⟨b1, o1, rfl, e0⟩ := H.out.get j hjl
   rw [← HW.out] at e0
   have hf := from1_walk N (nget l j) least wr (by rw [HW.out]; exact HC.out)
   have HF := Lib.hid hf; have HJL := Lib.hid hjl
   clear hf hjl
   go_wp2_with (fail)
   refine HF.out.mono ?_
   rintro e wx ⟨rfl, hw⟩
   obtain rfl := hw.symm
   clear hw
   by_cases hx : nget l j < least
   ·rw [decide_eq_true hx]
    have HX := Lib.hid hx
    clear hx
    go_wp2_with (fail)
    go_ret
    exact ⟨j, rfl, ⟨fun _ => ⟨_, nget_mem HJL.out, HX.out⟩, fun _ => by omega⟩, by omega, by omega, HW.out⟩
   ·rw [decide_eq_false hx]
    have HX := Lib.hid hx
    clear hx
    go_wp2_with (fail)
    go_roundw
    case rel => exact ⟨j + 1, by omega, by go_num, HW, Lib.hid fun i hi => by
      by_cases e : i = j
      ·rw [e]; have := HX.out; omega
      ·exact HA.out i (by omega)⟩
    case measure => simp [intOf]; omega
  ·obtain rfl : j = n := by omega
   go_wp2_with (fail)
   go_ret
   refine ⟨-1, rfl, ⟨fun h => by omega, ?_⟩, by omega, by omega, HW.out⟩
   rintro ⟨x, hx, hl⟩
   obtain ⟨i, hi, e⟩ := List.mem_iff_getElem.1 hx
   have h1 := HA.out i (by rw [← H.out.len]; exact hi)
   have := nget_at hi
   rw [List.getElem?_eq_getElem hi, e] at this
   rw [← Option.some.inj this] at h1
   omega
theorem containsFrom_walk {n c : Nat} {a : Option Addr} {l : List Int} {w : World} (h : RdI w n a l) (hn : n ≤ 100000) (N : Nat) (least : Int) (hc : w.cell? ⟨N, 0, none⟩ = some (.int .i64 least)) :
  Calls Tryz.prog 100 #[.slice a n c, .func (.func 101) #[] #[.pointer (some ⟨N, 0, none⟩)]] w fun e w' => e = .returned (.bool (decide (∃ x ∈ l, x < least))) ∧ w' = w := by
 have H := Lib.hid (indexFrom_walk (c := c) h hn N least hc)
 clear h hc
 go_enter Tryz.func100, Tryz.ntmps100
 go_wp2_with (fail)
 refine H.out.mono ?_
 rintro e wx ⟨i, rfl, hi, hi1, hi2, hw⟩
 obtain rfl := hw.symm
 clear hw
 have hd : decide (∃ x ∈ l, x < least) = decide (0 ≤ i) := decide_eq_decide.2 hi.symm
 have HD := Lib.hid hd
 clear hd hi
 go_wp2_with (fail)
 go_ret
 exact ⟨ret_bool HD.out.symm, rfl⟩
theorem from_walk {n c : Nat} {a : Option Addr} {l : List Int} {w : World} (h : RdI w n a l) (hn : n ≤ 100000) (least : Int) :
  Calls Tryz.prog 82 #[.int .i64 least, .slice a n c] w fun e w' => e = .returned (.bool (decide (∀ x ∈ l, least ≤ x))) ∧ Below w.heap.size w w' := by
 have hb : Below w.heap.size w (w.alloc (.cells #[.int .i64 least] 3)) := box_new _
 have H := Lib.hid (containsFrom_walk (c := c) (h.below hb) hn w.heap.size least (box_at (Below.refl _ _) 0 rfl)); have HB := Lib.hid hb
 have hd : decide (∀ x ∈ l, least ≤ x) = !decide (∃ x ∈ l, x < least) := by
  by_cases hx : ∃ x ∈ l, x < least
  ·rw [decide_eq_true hx, decide_eq_false]
   ·rfl
   ·intro ha
    obtain ⟨x, h1, h2⟩ := hx
    have := ha x h1
    omega
  ·rw [decide_eq_false hx, decide_eq_true]
   ·rfl
   ·intro x h1
    by_cases hl : x < least
    ·exact absurd ⟨x, h1, hl⟩ hx
    ·omega
 have HD := Lib.hid hd
 clear h hb hd
 go_enter Tryz.func82, Tryz.ntmps82
 go_wp2_with (fail)
 refine H.out.mono ?_
 rintro e wx ⟨rfl, hw⟩
 obtain rfl := hw.symm
 clear hw
 go_wp2_with (fail)
 go_ret
 exact ⟨ret_bool HD.out.symm, HB.out⟩
end Aterm
end Go.Proofs.YtkfkpjngiffamaaGreatDoor
