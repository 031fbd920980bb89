/- The walks of the program's writer: typ and tight. -/
import Derived.Test.YtgcnibipikondaaDoorTyPut
import Derived.Test.YtgcnibipikondaaDoorTyOf
import Derived.Test.YtgcnibipikondaaDoorTyDig
namespace Go.Proofs.YtgcnibipikondaaDoor
open Go.RowKit
set_option linter.unusedVariables false
namespace Types

/-- While a type is written: the words so far, what has been turned, and the type's own box. -/
def St (N : Nat) (w : World) (O : Obj) (ss : List ByteArray) (W : World) : Prop := WAt N ss W ∧ Wrote N w W ∧ W.heap[w.heap.size]? = some O
theorem St.start {N : Nat} {w : World} {ss : List ByteArray} (O : Obj) (h : WAt N ss w) : St N w O ss (w.alloc O) := ⟨h.alloc O, (Wrote.refl N w).alloc O, heap_alloc_new w O⟩
theorem St.alloc {N : Nat} {w W : World} {O : Obj} {ss : List ByteArray} (h : St N w O ss W) (O' : Obj) : St N w O ss (W.alloc O') := ⟨h.1.alloc O', h.2.1.alloc O', (Below.heap_alloc _ _ _ (lt_of_block h.2.2)).trans h.2.2⟩
theorem not_strs {cs : Array Value} {fz : Nat × Nat} : ¬ IsStrs (some (.cells cs 24 fz)) := by
  rintro ⟨cs', fz', h⟩
  simp at h
theorem St.next {N : Nat} {w W W' : World} {cs : Array Value} {ss ss' : List ByteArray} (h : St N w (.cells cs 24 (0, 0)) ss W) (hN : N < w.heap.size) (hA : WAt N ss' W') (hW : Wrote N W W') : St N w (.cells cs 24 (0, 0)) ss' W' :=
  ⟨hA, h.2.1.trans hW, (hW.high _ (lt_of_block h.2.2) (by omega) (by rw [h.2.2]; exact not_strs)).trans h.2.2⟩
theorem St.low {N : Nat} {w0 w W : World} {O : Obj} {ss : List ByteArray} (h : St N w O ss W) (hb : Below w0.heap.size w0 w) (hN : w0.heap.size ≤ N) : Below w0.heap.size w0 W :=
  ⟨h.2.1.os.trans hb.os, h.2.1.tape.trans hb.tape, h.2.1.output.trans hb.output, Nat.le_trans hb.size h.2.1.size, fun k hk => (h.2.1.low k (Nat.lt_of_lt_of_le hk hb.size) (by omega)).trans (hb.block k hk)⟩
theorem put_one {N : Nat} {w : World} {cs : Array Value} (hN : N < w.heap.size) (s : ByteArray) (W : World) (M : Nat) (ss : List ByteArray) (hM : M = W.heap.size) (h : St N w (.cells cs 24 (0, 0)) ss W) (hz : ss.length + 1 ≤ 1000000) :
    Calls Tryd.prog 39 #[.pointer (some ⟨N, 0, none⟩), .slice (some ⟨M, 0, none⟩) 1 1] (W.alloc (.cells #[.string s] 9)) fun e W' => e = .returned (.tuple #[]) ∧ St N w (.cells cs 24 (0, 0)) (ss ++ [s]) W' := by
  subst hM
  refine (put_walk N ss [s] (some ⟨W.heap.size, 0, none⟩) 1 1 (W.alloc (.cells #[.string s] 9)) (h.1.alloc _) (Src.new W [s] _ _) hz).mono ?_
  rintro e W' ⟨rfl, hA, hW⟩
  exact ⟨rfl, (h.alloc _).next hN hA hW⟩
/-- What is asked of typ and of tight. -/
def TypOf (w0 : World) (N m : Nat) : Prop := ∀ (t : Ty) (h : Hd) (p : Option Addr) (l c : Nat) (ss : List ByteArray) (w : World), wt t ≤ m → mayT t = true → TyIs w0 h p l c t → Below w0.heap.size w0 w → WAt N ss w → ss.length + 3 * wt t ≤ 1000000 →
  Calls Tryd.prog 27 #[.pointer (some ⟨N, 0, none⟩), .agg #[.int .u8 h.k, .int .i64 h.v, .slice p l c]] w (WEnd N (ss ++ wordsT t) w)
def TightOf (w0 : World) (N m : Nat) : Prop := ∀ (t : Ty) (h : Hd) (p : Option Addr) (l c : Nat) (ss : List ByteArray) (w : World), wt t ≤ m → mayT t = true → TyIs w0 h p l c t → Below w0.heap.size w0 w → WAt N ss w → ss.length + 3 * wt t + 2 ≤ 1000000 →
  Calls Tryd.prog 40 #[.pointer (some ⟨N, 0, none⟩), .agg #[.int .u8 h.k, .int .i64 h.v, .slice p l c]] w (WEnd N (ss ++ tightW (t.h.k, wordsT t)) w)
theorem st_end {N : Nat} {w W : World} {O : Obj} {ss : List ByteArray} (h : St N w O ss W) : WEnd N ss w (.returned (.tuple #[])) W := ⟨rfl, h.1, h.2.1⟩
theorem words_le {t : Ty} (h : mayT t = true) : (wordsT t).length ≤ 3 * wt t := (words_pos _ t (Nat.le_refl _) h).2

set_option maxRecDepth 10000 in
set_option maxHeartbeats 6400000 in
theorem tight_walk (w0 : World) (N m : Nat) (hN0 : w0.heap.size ≤ N) (hT : TypOf w0 N m) : TightOf w0 N m := by
  intro t h p l c ss w hm hok hI hb hW hz
  have hNl := hW.lt
  have hwl := words_le hok
  have hth := hI.head
  obtain ⟨k, v⟩ := h
  have hs := St.start (.cells #[.int .u8 k, .int .i64 v, .slice p l c] 24 (0, 0)) hW
  by_cases hk : k = 4
  · subst hk
    have ew : tightW (t.h.k, wordsT t) = wOpen :: (wordsT t ++ [wShut]) := by rw [hth]; rfl
    have es : ss ++ tightW (t.h.k, wordsT t) = ss ++ [wOpen] ++ wordsT t ++ [wShut] := by rw [ew]; simp
    have hp1 := fun W M hM hSt => put_one (cs := #[.int .u8 4, .int .i64 v, .slice p l c]) hNl wOpen W M ss hM hSt (by omega)
    have hp3 := fun W M hM hSt => put_one (cs := #[.int .u8 4, .int .i64 v, .slice p l c]) hNl wShut W M (ss ++ [wOpen] ++ wordsT t) hM hSt (by simp; omega)
    have hp2 := fun W (hSt : St N w (.cells #[.int .u8 4, .int .i64 v, .slice p l c] 24 (0, 0)) (ss ++ [wOpen]) W) => hT t ⟨4, v⟩ p l c (ss ++ [wOpen]) W hm hok hI (hSt.low hb hN0) hSt.1 (by simp; omega)
    have ES := Lib.hid es; have H1 := Lib.hid hp1; have H2 := Lib.hid hp2; have H3 := Lib.hid hp3; have HS := Lib.hid hs
    clear hp1 hp2 hp3 hs ew es hth hwl hT hI hb hW hok hm hz
    go_enter Tryd.func40, Tryd.ntmps40
    go_wp2_with (fail)
    refine (H1.out _ _ (by simp) HS.out).mono ?_
    rintro e w1 ⟨rfl, h1⟩
    obtain ⟨⟨c0, c1, c2⟩, -⟩ := cells3 h1.2.2
    have HS1 := Lib.hid h1
    clear h1
    go_wp2_with (fail)
    refine (H2.out _ HS1.out).mono ?_
    rintro e w2 ⟨rfl, hA2, hW2⟩
    have HS2 := Lib.hid (HS1.out.next hNl hA2 hW2)
    clear hA2 hW2 c0 c1 c2
    go_wp2_with (fail)
    refine (H3.out _ _ rfl HS2.out).mono ?_
    rintro e w3 ⟨rfl, h3⟩
    have HS3 := Lib.hid h3
    clear h3
    go_wp2_with (fail)
    go_end0
    rw [ES.out]
    exact st_end HS3.out
  · have ew : tightW (t.h.k, wordsT t) = wordsT t := by rw [hth]; unfold tightW; rw [if_neg hk]
    rw [ew]
    have n1 : (k != 4) = true := by simpa using hk
    have hp2 := fun W (hSt : St N w (.cells #[.int .u8 k, .int .i64 v, .slice p l c] 24 (0, 0)) ss W) => hT t ⟨k, v⟩ p l c ss W hm hok hI (hSt.low hb hN0) hSt.1 (by omega)
    have H2 := Lib.hid hp2; have HS := Lib.hid hs
    clear hp2 hs ew hth hwl hT hI hb hW hok hm hz hk
    go_enter Tryd.func40, Tryd.ntmps40
    go_wp2_with (fail)
    refine (H2.out _ HS.out).mono ?_
    rintro e w2 ⟨rfl, hA2, hW2⟩
    have HS2 := Lib.hid (HS.out.next hNl hA2 hW2)
    clear hA2 hW2
    go_wp2_with (fail)
    go_end0
    exact st_end HS2.out

/-- A kid's cells, in whatever world. -/
theorem kid_at {w0 : World} {h : Hd} {p : Option Addr} {l c : Nat} {t : Ty} (hI : TyIs w0 h p l c t) (hl : 0 < l) : ∃ b o, p = some ⟨b, o, none⟩ ∧ ∀ i, i < l → ∃ q d, TyIs w0 (tget t.ks i).h q (tget t.ks i).ks.length d (tget t.ks i) ∧ ∀ W, Below w0.heap.size w0 W →
    W.cell? ⟨b, o + i * 3, none⟩ = some (.int .u8 (tget t.ks i).h.k) ∧ W.cell? ⟨b, o + i * 3 + 1, none⟩ = some (.int .i64 (tget t.ks i).h.v) ∧ W.cell? ⟨b, o + i * 3 + 2, none⟩ = some (.slice q (tget t.ks i).ks.length d) := by
  have hlen := hI.len
  obtain ⟨b, o, q, d, hp, -⟩ := hI.kids.get 0 (by omega)
  refine ⟨b, o, hp, fun i hi => ?_⟩
  obtain ⟨b', o', q', d', hp', hT, c0, c1, c2⟩ := hI.kids.get i (by omega)
  rw [hp] at hp'
  injection hp' with hp'
  injection hp' with e1 e2
  subst e1 e2
  refine ⟨q', d', hT, fun W hb => ?_⟩
  have hR := fun (a : Addr) (v : Value) (hv : w0.cell? a = some v) => (hb.cell (World.block_lt_of_cell? w0 _ hv)).trans hv
  exact ⟨hR _ _ c0, hR _ _ c1, hR _ _ c2⟩

set_option maxRecDepth 10000 in
set_option maxHeartbeats 6400000 in
theorem typ_1 (w0 : World) (N m : Nat) (hN0 : w0.heap.size ≤ N) (hT : TypOf w0 N m) (t : Ty) (v : Int) (p : Option Addr) (l c : Nat) (ss : List ByteArray) (w : World) (hm : wt t ≤ m + 1) (hok : mayT t = true) (hI : TyIs w0 ⟨1, v⟩ p l c t) (hb : Below w0.heap.size w0 w) (hW : WAt N ss w) (hz : ss.length + 3 * wt t ≤ 1000000) :
    Calls Tryd.prog 27 #[.pointer (some ⟨N, 0, none⟩), .agg #[.int .u8 1, .int .i64 v, .slice p l c]] w (WEnd N (ss ++ wordsT t) w) := by
  have hNl := hW.lt
  have hTT := tight_walk w0 N m hN0 hT
  have hlen := hI.len
  have hnode := (may_node hok).1
  rw [hI.head] at hnode
  have hcap := hI.cap
  obtain rfl : l = 0 := by simp at hnode; rw [hnode] at hlen; simpa using hlen.symm
  have es : ss ++ wordsT t = ss ++ [wInt] := by
    rw [wordsT_eq, hI.head]
    unfold comb
    simp
  have hp0 := fun W M hM hSt => put_one (cs := #[.int .u8 1, .int .i64 v, .slice (p) 0 c]) hNl wInt W M (ss) hM hSt (by have := wt_pos t; omega)
  have hs := St.start (.cells #[.int .u8 1, .int .i64 v, .slice (p) 0 c] 24 (0, 0)) hW
  have ES := Lib.hid es; have HS := Lib.hid hs; have H0 := Lib.hid hp0
  have hcl : c ≤ 9223372036854775807 := hcap.2
  have hcq := hcap.1
  clear es hs hp0 hTT hlen hnode hcap hT hI hb hW hok hm hz
  go_enter Tryd.func27, Tryd.ntmps27
  go_wp2_with (fail)
  refine (H0.out _ _ (by simp) HS.out).mono ?_
  rintro e w1 ⟨rfl, h1⟩
  have HS1 := Lib.hid h1
  clear h1
  obtain ⟨⟨c0, c1, c2⟩, -⟩ := cells3 HS1.out.2.2
  go_wp2_with (fail)
  go_end0
  rw [ES.out]
  exact st_end HS1.out

set_option maxRecDepth 10000 in
set_option maxHeartbeats 6400000 in
theorem typ_2 (w0 : World) (N m : Nat) (hN0 : w0.heap.size ≤ N) (hT : TypOf w0 N m) (t : Ty) (v : Int) (p : Option Addr) (l c : Nat) (ss : List ByteArray) (w : World) (hm : wt t ≤ m + 1) (hok : mayT t = true) (hI : TyIs w0 ⟨2, v⟩ p l c t) (hb : Below w0.heap.size w0 w) (hW : WAt N ss w) (hz : ss.length + 3 * wt t ≤ 1000000) :
    Calls Tryd.prog 27 #[.pointer (some ⟨N, 0, none⟩), .agg #[.int .u8 2, .int .i64 v, .slice p l c]] w (WEnd N (ss ++ wordsT t) w) := by
  have hNl := hW.lt
  have hTT := tight_walk w0 N m hN0 hT
  have hlen := hI.len
  have hnode := (may_node hok).1
  rw [hI.head] at hnode
  have hcap := hI.cap
  obtain rfl : l = 2 := by simp at hnode; omega
  obtain ⟨b, o, rfl, hk⟩ := kid_at hI (by omega)
  obtain ⟨q0, d0, hI0, hc0⟩ := hk 0 (by omega)
  have ok0 := may_kid hok (i := 0) (by omega)
  have wl0 := words_le ok0
  rw [show o + 0 * 3 = o from by omega] at hc0
  obtain ⟨q1, d1, hI1, hc1⟩ := hk 1 (by omega)
  have ok1 := may_kid hok (i := 1) (by omega)
  have wl1 := words_le ok1
  rw [show o + 1 * 3 = o + 3 from by omega] at hc1
  have hww := wt2 (t := t) (by omega)
  have es : ss ++ wordsT t = ss ++ [wOpen] ++ wordsT (tget t.ks 0) ++ [wStar] ++ wordsT (tget t.ks 1) ++ [wShut] := by
    rw [wordsT_eq, hI.head]
    unfold comb
    simp [kd_get (show 0 < t.ks.length by omega), kd_get (show 1 < t.ks.length by omega)]
  have tl0 := tightW_len ((tget t.ks 0).h.k, wordsT (tget t.ks 0))
  simp only at tl0
  have tl1 := tightW_len ((tget t.ks 1).h.k, wordsT (tget t.ks 1))
  simp only at tl1
  have hp0 := fun W M hM hSt => put_one (cs := #[.int .u8 2, .int .i64 v, .slice (some ⟨b, o, none⟩) 2 c]) hNl wOpen W M (ss) hM hSt (by have := wt_pos t; omega)
  have hp1 := fun W (hSt : St N w (.cells #[.int .u8 2, .int .i64 v, .slice (some ⟨b, o, none⟩) 2 c] 24 (0, 0)) (ss ++ [wOpen]) W) => hT (tget t.ks 0) _ q0 _ d0 (ss ++ [wOpen]) W (by omega) ok0 hI0 (hSt.low hb hN0) hSt.1 (by simp; omega)
  have hp2 := fun W M hM hSt => put_one (cs := #[.int .u8 2, .int .i64 v, .slice (some ⟨b, o, none⟩) 2 c]) hNl wStar W M (ss ++ [wOpen] ++ wordsT (tget t.ks 0)) hM hSt (by simp; omega)
  have hp3 := fun W (hSt : St N w (.cells #[.int .u8 2, .int .i64 v, .slice (some ⟨b, o, none⟩) 2 c] 24 (0, 0)) (ss ++ [wOpen] ++ wordsT (tget t.ks 0) ++ [wStar]) W) => hT (tget t.ks 1) _ q1 _ d1 (ss ++ [wOpen] ++ wordsT (tget t.ks 0) ++ [wStar]) W (by omega) ok1 hI1 (hSt.low hb hN0) hSt.1 (by simp; omega)
  have hp4 := fun W M hM hSt => put_one (cs := #[.int .u8 2, .int .i64 v, .slice (some ⟨b, o, none⟩) 2 c]) hNl wShut W M (ss ++ [wOpen] ++ wordsT (tget t.ks 0) ++ [wStar] ++ wordsT (tget t.ks 1)) hM hSt (by simp; omega)
  have hc0' := fun W ss' (hSt : St N w (.cells #[.int .u8 2, .int .i64 v, .slice (some ⟨b, o, none⟩) 2 c] 24 (0, 0)) ss' W) => hc0 W (hSt.low hb hN0)
  have hc1' := fun W ss' (hSt : St N w (.cells #[.int .u8 2, .int .i64 v, .slice (some ⟨b, o, none⟩) 2 c] 24 (0, 0)) ss' W) => hc1 W (hSt.low hb hN0)
  have hs := St.start (.cells #[.int .u8 2, .int .i64 v, .slice (some ⟨b, o, none⟩) 2 c] 24 (0, 0)) hW
  have ES := Lib.hid es; have HS := Lib.hid hs; have H0 := Lib.hid hp0; have H1 := Lib.hid hp1; have H2 := Lib.hid hp2; have H3 := Lib.hid hp3; have H4 := Lib.hid hp4; have HC0 := Lib.hid hc0'; have HC1 := Lib.hid hc1'
  have hcl : c ≤ 9223372036854775807 := hcap.2
  have hcq := hcap.1
  clear es hs hp0 hp1 hp2 hp3 hp4 hc0 hc0' hI0 ok0 wl0 tl0 hc1 hc1' hI1 ok1 wl1 tl1 hww hk hTT hlen hnode hcap hT hI hb hW hok hm hz
  go_enter Tryd.func27, Tryd.ntmps27
  go_wp2_with (fail)
  refine (H0.out _ _ (by simp) HS.out).mono ?_
  rintro e w1 ⟨rfl, h1⟩
  have HS1 := Lib.hid h1
  clear h1
  obtain ⟨⟨c0, c1, c2⟩, -⟩ := cells3 HS1.out.2.2
  obtain ⟨a0, a1, a2⟩ := HC0.out _ _ HS1.out
  go_wp2_with (fail)
  refine (H1.out _ HS1.out).mono ?_
  rintro e w2 ⟨rfl, hA2, hW2⟩
  have HS2 := Lib.hid (HS1.out.next hNl hA2 hW2)
  clear hA2 hW2 a0 a1 a2
  clear c0 c1 c2
  obtain ⟨⟨c0, c1, c2⟩, -⟩ := cells3 HS2.out.2.2
  go_wp2_with (fail)
  refine (H2.out _ _ rfl HS2.out).mono ?_
  rintro e w3 ⟨rfl, h3⟩
  have HS3 := Lib.hid h3
  clear h3
  clear c0 c1 c2
  obtain ⟨⟨c0, c1, c2⟩, -⟩ := cells3 HS3.out.2.2
  obtain ⟨a0, a1, a2⟩ := HC1.out _ _ HS3.out
  go_wp2_with (fail)
  refine (H3.out _ HS3.out).mono ?_
  rintro e w4 ⟨rfl, hA4, hW4⟩
  have HS4 := Lib.hid (HS3.out.next hNl hA4 hW4)
  clear hA4 hW4 a0 a1 a2
  clear c0 c1 c2
  obtain ⟨⟨c0, c1, c2⟩, -⟩ := cells3 HS4.out.2.2
  go_wp2_with (fail)
  refine (H4.out _ _ rfl HS4.out).mono ?_
  rintro e w5 ⟨rfl, h5⟩
  have HS5 := Lib.hid h5
  clear h5
  clear c0 c1 c2
  obtain ⟨⟨c0, c1, c2⟩, -⟩ := cells3 HS5.out.2.2
  go_wp2_with (fail)
  go_end0
  rw [ES.out]
  exact st_end HS5.out

set_option maxRecDepth 10000 in
set_option maxHeartbeats 6400000 in
theorem typ_3 (w0 : World) (N m : Nat) (hN0 : w0.heap.size ≤ N) (hT : TypOf w0 N m) (t : Ty) (v : Int) (p : Option Addr) (l c : Nat) (ss : List ByteArray) (w : World) (hm : wt t ≤ m + 1) (hok : mayT t = true) (hI : TyIs w0 ⟨3, v⟩ p l c t) (hb : Below w0.heap.size w0 w) (hW : WAt N ss w) (hz : ss.length + 3 * wt t ≤ 1000000) :
    Calls Tryd.prog 27 #[.pointer (some ⟨N, 0, none⟩), .agg #[.int .u8 3, .int .i64 v, .slice p l c]] w (WEnd N (ss ++ wordsT t) w) := by
  have hNl := hW.lt
  have hTT := tight_walk w0 N m hN0 hT
  have hlen := hI.len
  have hnode := (may_node hok).1
  rw [hI.head] at hnode
  have hcap := hI.cap
  obtain rfl : l = 1 := by simp at hnode; omega
  obtain ⟨b, o, rfl, hk⟩ := kid_at hI (by omega)
  obtain ⟨q0, d0, hI0, hc0⟩ := hk 0 (by omega)
  have ok0 := may_kid hok (i := 0) (by omega)
  have wl0 := words_le ok0
  rw [show o + 0 * 3 = o from by omega] at hc0
  have hww := wt1 (t := t) (by omega)
  have es : ss ++ wordsT t = ss ++ [wRef] ++ tightW ((tget t.ks 0).h.k, wordsT (tget t.ks 0)) := by
    rw [wordsT_eq, hI.head]
    unfold comb
    simp [kd_get (show 0 < t.ks.length by omega)]
  have tl0 := tightW_len ((tget t.ks 0).h.k, wordsT (tget t.ks 0))
  simp only at tl0
  have hp0 := fun W M hM hSt => put_one (cs := #[.int .u8 3, .int .i64 v, .slice (some ⟨b, o, none⟩) 1 c]) hNl wRef W M (ss) hM hSt (by have := wt_pos t; omega)
  have hp1 := fun W (hSt : St N w (.cells #[.int .u8 3, .int .i64 v, .slice (some ⟨b, o, none⟩) 1 c] 24 (0, 0)) (ss ++ [wRef]) W) => hTT (tget t.ks 0) _ q0 _ d0 (ss ++ [wRef]) W (by omega) ok0 hI0 (hSt.low hb hN0) hSt.1 (by simp; omega)
  have hc0' := fun W ss' (hSt : St N w (.cells #[.int .u8 3, .int .i64 v, .slice (some ⟨b, o, none⟩) 1 c] 24 (0, 0)) ss' W) => hc0 W (hSt.low hb hN0)
  have hs := St.start (.cells #[.int .u8 3, .int .i64 v, .slice (some ⟨b, o, none⟩) 1 c] 24 (0, 0)) hW
  have ES := Lib.hid es; have HS := Lib.hid hs; have H0 := Lib.hid hp0; have H1 := Lib.hid hp1; have HC0 := Lib.hid hc0'
  have hcl : c ≤ 9223372036854775807 := hcap.2
  have hcq := hcap.1
  clear es hs hp0 hp1 hc0 hc0' hI0 ok0 wl0 tl0 hww hk hTT hlen hnode hcap hT hI hb hW hok hm hz
  go_enter Tryd.func27, Tryd.ntmps27
  go_wp2_with (fail)
  refine (H0.out _ _ (by simp) HS.out).mono ?_
  rintro e w1 ⟨rfl, h1⟩
  have HS1 := Lib.hid h1
  clear h1
  obtain ⟨⟨c0, c1, c2⟩, -⟩ := cells3 HS1.out.2.2
  obtain ⟨a0, a1, a2⟩ := HC0.out _ _ HS1.out
  go_wp2_with (fail)
  refine (H1.out _ HS1.out).mono ?_
  rintro e w2 ⟨rfl, hA2, hW2⟩
  have HS2 := Lib.hid (HS1.out.next hNl hA2 hW2)
  clear hA2 hW2 a0 a1 a2
  clear c0 c1 c2
  obtain ⟨⟨c0, c1, c2⟩, -⟩ := cells3 HS2.out.2.2
  go_wp2_with (fail)
  go_end0
  rw [ES.out]
  exact st_end HS2.out

set_option maxRecDepth 10000 in
set_option maxHeartbeats 6400000 in
theorem typ_4 (w0 : World) (N m : Nat) (hN0 : w0.heap.size ≤ N) (hT : TypOf w0 N m) (t : Ty) (v : Int) (p : Option Addr) (l c : Nat) (ss : List ByteArray) (w : World) (hm : wt t ≤ m + 1) (hok : mayT t = true) (hI : TyIs w0 ⟨4, v⟩ p l c t) (hb : Below w0.heap.size w0 w) (hW : WAt N ss w) (hz : ss.length + 3 * wt t ≤ 1000000) :
    Calls Tryd.prog 27 #[.pointer (some ⟨N, 0, none⟩), .agg #[.int .u8 4, .int .i64 v, .slice p l c]] w (WEnd N (ss ++ wordsT t) w) := by
  have hNl := hW.lt
  have hTT := tight_walk w0 N m hN0 hT
  have hlen := hI.len
  have hnode := (may_node hok).1
  rw [hI.head] at hnode
  have hcap := hI.cap
  obtain rfl : l = 2 := by simp at hnode; omega
  obtain ⟨b, o, rfl, hk⟩ := kid_at hI (by omega)
  obtain ⟨q0, d0, hI0, hc0⟩ := hk 0 (by omega)
  have ok0 := may_kid hok (i := 0) (by omega)
  have wl0 := words_le ok0
  rw [show o + 0 * 3 = o from by omega] at hc0
  obtain ⟨q1, d1, hI1, hc1⟩ := hk 1 (by omega)
  have ok1 := may_kid hok (i := 1) (by omega)
  have wl1 := words_le ok1
  rw [show o + 1 * 3 = o + 3 from by omega] at hc1
  have hww := wt2 (t := t) (by omega)
  have es : ss ++ wordsT t = ss ++ tightW ((tget t.ks 0).h.k, wordsT (tget t.ks 0)) ++ [wArrow] ++ wordsT (tget t.ks 1) := by
    rw [wordsT_eq, hI.head]
    unfold comb
    simp [kd_get (show 0 < t.ks.length by omega), kd_get (show 1 < t.ks.length by omega)]
  have tl0 := tightW_len ((tget t.ks 0).h.k, wordsT (tget t.ks 0))
  simp only at tl0
  have tl1 := tightW_len ((tget t.ks 1).h.k, wordsT (tget t.ks 1))
  simp only at tl1
  have hp0 := fun W (hSt : St N w (.cells #[.int .u8 4, .int .i64 v, .slice (some ⟨b, o, none⟩) 2 c] 24 (0, 0)) (ss) W) => hTT (tget t.ks 0) _ q0 _ d0 (ss) W (by omega) ok0 hI0 (hSt.low hb hN0) hSt.1 (by omega)
  have hp1 := fun W M hM hSt => put_one (cs := #[.int .u8 4, .int .i64 v, .slice (some ⟨b, o, none⟩) 2 c]) hNl wArrow W M (ss ++ tightW ((tget t.ks 0).h.k, wordsT (tget t.ks 0))) hM hSt (by simp; omega)
  have hp2 := fun W (hSt : St N w (.cells #[.int .u8 4, .int .i64 v, .slice (some ⟨b, o, none⟩) 2 c] 24 (0, 0)) (ss ++ tightW ((tget t.ks 0).h.k, wordsT (tget t.ks 0)) ++ [wArrow]) W) => hT (tget t.ks 1) _ q1 _ d1 (ss ++ tightW ((tget t.ks 0).h.k, wordsT (tget t.ks 0)) ++ [wArrow]) W (by omega) ok1 hI1 (hSt.low hb hN0) hSt.1 (by simp; omega)
  have hc0' := fun W ss' (hSt : St N w (.cells #[.int .u8 4, .int .i64 v, .slice (some ⟨b, o, none⟩) 2 c] 24 (0, 0)) ss' W) => hc0 W (hSt.low hb hN0)
  have hc1' := fun W ss' (hSt : St N w (.cells #[.int .u8 4, .int .i64 v, .slice (some ⟨b, o, none⟩) 2 c] 24 (0, 0)) ss' W) => hc1 W (hSt.low hb hN0)
  have hs := St.start (.cells #[.int .u8 4, .int .i64 v, .slice (some ⟨b, o, none⟩) 2 c] 24 (0, 0)) hW
  have ES := Lib.hid es; have HS := Lib.hid hs; have H0 := Lib.hid hp0; have H1 := Lib.hid hp1; have H2 := Lib.hid hp2; have HC0 := Lib.hid hc0'; have HC1 := Lib.hid hc1'
  have hcl : c ≤ 9223372036854775807 := hcap.2
  have hcq := hcap.1
  clear es hs hp0 hp1 hp2 hc0 hc0' hI0 ok0 wl0 tl0 hc1 hc1' hI1 ok1 wl1 tl1 hww hk hTT hlen hnode hcap hT hI hb hW hok hm hz
  go_enter Tryd.func27, Tryd.ntmps27
  obtain ⟨a0, a1, a2⟩ := HC0.out _ _ HS.out
  go_wp2_with (fail)
  refine (H0.out _ HS.out).mono ?_
  rintro e w1 ⟨rfl, hA1, hW1⟩
  have HS1 := Lib.hid (HS.out.next hNl hA1 hW1)
  clear hA1 hW1 a0 a1 a2
  obtain ⟨⟨c0, c1, c2⟩, -⟩ := cells3 HS1.out.2.2
  go_wp2_with (fail)
  refine (H1.out _ _ rfl HS1.out).mono ?_
  rintro e w2 ⟨rfl, h2⟩
  have HS2 := Lib.hid h2
  clear h2
  clear c0 c1 c2
  obtain ⟨⟨c0, c1, c2⟩, -⟩ := cells3 HS2.out.2.2
  obtain ⟨a0, a1, a2⟩ := HC1.out _ _ HS2.out
  go_wp2_with (fail)
  refine (H2.out _ HS2.out).mono ?_
  rintro e w3 ⟨rfl, hA3, hW3⟩
  have HS3 := Lib.hid (HS2.out.next hNl hA3 hW3)
  clear hA3 hW3 a0 a1 a2
  clear c0 c1 c2
  obtain ⟨⟨c0, c1, c2⟩, -⟩ := cells3 HS3.out.2.2
  go_wp2_with (fail)
  go_end0
  rw [ES.out]
  exact st_end HS3.out
end Types
end Go.Proofs.YtgcnibipikondaaDoor
