/- The document's reading of tokens: two terms with a sign between them. -/
import Derived.Test.YtlmaphaipcfppaaGreatDoorGParseB
import Derived.Test.YtlmaphaipcfppaaGreatDoorTermReads
namespace Go.Proofs.YtlmaphaipcfppaaGreatDoor
open Go.RowKit
set_option linter.unusedVariables false
namespace Parse
open Token (Tok tel ToksAt)
open Term (Tm Hd TmIs Kids ret_bool ret_i64 Flat tcells Reads veil)
open Words (str_no str_yes)

/-- Two terms, one behind the other, in a block just laid, seen though the block N isn't. -/
theorem kids_two {w V : World} {N : Nat} {h h' : Hd} {p p' : Option Addr} {l l' c c' : Nat} {t u : Tm} (hT : TmIs w h p l c t) (hU : TmIs w h' p' l' c' u) (hN : w.heap.size ≤ N) (ty : TypeId) (b : Nat) (hbN : b ≠ N)
    (hV : ∀ i, i < w.heap.size → V.heap[i]? = w.heap[i]?) (hb : V.heap[b]? = some (.cells (tcells h p l c ++ tcells h' p' l' c').toArray ty (0, 0))) :
    Term.Kids (veil (fun i => decide (i ≠ N)) V) (some ⟨b, 0, none⟩) [t, u] := by
  have hr : Reads w (veil (fun i => decide (i ≠ N)) V) := Term.veil_from (fun i hi => ⟨decide_eq_true (by omega), hV i hi⟩)
  refine Term.kids_of_flat (xs := tcells h p l c ++ tcells h' p' l' c') (fun j v hv => ?_) ((Flat.one (hT.reads' hr)).append (Flat.one (hU.reads' hr)))
  rw [World.cell?_of_block (w := V) (Term.veil_at (decide_eq_true hbN))]
  simp [World.cell?, hb, hv]
/-- How it ends. -/
def PutEnd (x : ByteArray) (t u : Tm) (w : World) (e : Ending) (w' : World) : Prop :=
  ∃ q, e = .returned (.agg #[.int .u8 (opK x), .int .u8 (opO x), .int .i64 t.h.pl, .int .i64 0, .string ⟨#[]⟩, .string ⟨#[]⟩, .string ⟨#[]⟩, .slice q 2 2]) ∧
    TmIs w' ⟨opK x, opO x, t.h.pl, 0, ⟨#[]⟩, ⟨#[]⟩, ⟨#[]⟩⟩ q 2 2 (putF x t u) ∧ Below w.heap.size w w'

theorem tlPut : wPut.toList = [58, 61] := by decide +kernel
theorem tlAdd : wAdd.toList = [43] := by decide +kernel
theorem tlSub : wSub.toList = [45] := by decide +kernel
theorem tlMul : wMul.toList = [42] := by decide +kernel
theorem tlLess : wLess.toList = [60] := by decide +kernel
theorem tlIs : wIs.toList = [61] := by decide +kernel
/-- Four blocks just laid, later. -/
theorem four (w : World) (A B C D : Obj) {W : World} (hb : Below ((((w.alloc A).alloc B).alloc C).alloc D).heap.size ((((w.alloc A).alloc B).alloc C).alloc D) W) : W.heap[w.heap.size + 2]? = some C ∧ W.heap[w.heap.size + 3]? = some D ∧ Below w.heap.size w W := by
  have s1 : (w.alloc A).heap.size = w.heap.size + 1 := by simp
  have s2 : ((w.alloc A).alloc B).heap.size = w.heap.size + 2 := by simp
  have s3 : (((w.alloc A).alloc B).alloc C).heap.size = w.heap.size + 3 := by simp
  have s4 : ((((w.alloc A).alloc B).alloc C).alloc D).heap.size = w.heap.size + 4 := by simp
  have h0 : Below w.heap.size w ((((w.alloc A).alloc B).alloc C).alloc D) := ((((Below.refl _ _).alloc (Nat.le_refl _) _).alloc (by omega) _).alloc (by omega) _).alloc (by omega) _
  refine ⟨?_, ?_, h0.trans (hb.mono h0.size)⟩
  · rw [hb.block _ (by omega), Below.heap_alloc _ _ _ (by omega), ← s2]; exact heap_alloc_new _ C
  · rw [hb.block _ (by omega), ← s3]; exact heap_alloc_new _ D
theorem cells8' {W : World} {N : Nat} {a0 a1 a2 a3 a4 a5 a6 a7 : Value} {ty : TypeId} (h : W.heap[N]? = some (.cells #[a0, a1, a2, a3, a4, a5, a6, a7] ty (0, 0))) :
    (W.cell? ⟨N, 0, none⟩ = some a0 ∧ W.cell? ⟨N, 1, none⟩ = some a1 ∧ W.cell? ⟨N, 2, none⟩ = some a2 ∧ W.cell? ⟨N, 3, none⟩ = some a3 ∧ W.cell? ⟨N, 4, none⟩ = some a4 ∧ W.cell? ⟨N, 5, none⟩ = some a5 ∧ W.cell? ⟨N, 6, none⟩ = some a6 ∧ W.cell? ⟨N, 7, none⟩ = some a7) ∧
    (W.frozen? ⟨N, 0, none⟩ = false ∧ W.frozen? ⟨N, 1, none⟩ = false ∧ W.frozen? ⟨N, 2, none⟩ = false ∧ W.frozen? ⟨N, 3, none⟩ = false ∧ W.frozen? ⟨N, 4, none⟩ = false ∧ W.frozen? ⟨N, 5, none⟩ = false ∧ W.frozen? ⟨N, 6, none⟩ = false ∧ W.frozen? ⟨N, 7, none⟩ = false) := by
  simp [World.cell?, World.frozen?, h]
theorem opB (x : ByteArray) : 0 ≤ opK x ∧ opK x ≤ 255 ∧ 0 ≤ opO x ∧ opO x ≤ 255 := by
  unfold opK opO
  repeat' split
  all_goals omega
theorem put_fin {x : ByteArray} {K O : Int} {k op pl nn k' op' pl' nn' : Int} {nm ar ex nm' ar' ex' : ByteArray} {p p' : Option Addr} {l l' c c' : Nat} {t u : Tm} {w w1 W : World} (hT : TmIs w ⟨k, op, pl, nn, nm, ar, ex⟩ p l c t) (hU : TmIs w ⟨k', op', pl', nn', nm', ar', ex'⟩ p' l' c' u)
    (hK : K = opK x) (hO : O = opO x) (hb : Below ((((w.alloc (.cells #[.int .u8 k, .int .u8 op, .int .i64 pl, .int .i64 nn, .string nm, .string ar, .string ex, .slice p l c] 29)).alloc (.cells #[.int .u8 k', .int .u8 op', .int .i64 pl', .int .i64 nn', .string nm', .string ar', .string ex', .slice p' l' c'] 29)).alloc (.cells #[.int .u8 0, .int .u8 0, .int .i64 0, .int .i64 0, .string ⟨#[]⟩, .string ⟨#[]⟩, .string ⟨#[]⟩, .slice none 0 0] 29)).alloc (.cells #[.int .u8 k, .int .u8 op, .int .i64 pl, .int .i64 nn, .string nm, .string ar, .string ex, .slice p l c, .int .u8 k', .int .u8 op', .int .i64 pl', .int .i64 nn', .string nm', .string ar', .string ex', .slice p' l' c'] 29)).heap.size ((((w.alloc (.cells #[.int .u8 k, .int .u8 op, .int .i64 pl, .int .i64 nn, .string nm, .string ar, .string ex, .slice p l c] 29)).alloc (.cells #[.int .u8 k', .int .u8 op', .int .i64 pl', .int .i64 nn', .string nm', .string ar', .string ex', .slice p' l' c'] 29)).alloc (.cells #[.int .u8 0, .int .u8 0, .int .i64 0, .int .i64 0, .string ⟨#[]⟩, .string ⟨#[]⟩, .string ⟨#[]⟩, .slice none 0 0] 29)).alloc (.cells #[.int .u8 k, .int .u8 op, .int .i64 pl, .int .i64 nn, .string nm, .string ar, .string ex, .slice p l c, .int .u8 k', .int .u8 op', .int .i64 pl', .int .i64 nn', .string nm', .string ar', .string ex', .slice p' l' c'] 29)) w1) (hW : ∀ i, i < w1.heap.size → i ≠ w.heap.size + 2 → W.heap[i]? = w1.heap[i]?) (hB : Below w.heap.size w W) :
    PutEnd x t u w (.returned (.agg #[.int .u8 K, .int .u8 O, .int .i64 pl, .int .i64 0, .string ⟨#[]⟩, .string ⟨#[]⟩, .string ⟨#[]⟩, .slice (some ⟨w.heap.size + 3, 0, none⟩) 2 2])) W := by
  obtain ⟨_, h3, h4⟩ := four w _ _ _ _ hb
  have hpl : t.h.pl = pl := by rw [hT.head]
  have hl3 := lt_of_block h3
  have hk := kids_two (V := W) (N := w.heap.size + 2) hT hU (by omega) 29 (w.heap.size + 3) (by omega) (fun i hi => by rw [hW i (by have := h4.size; omega) (by omega)]; exact h4.block i hi) (by rw [hW _ hl3 (by omega)]; exact h3)
  obtain ⟨b1, b2, b3, b4⟩ := opB x
  refine ⟨_, by rw [hK, hO, hpl], ⟨rfl, rfl, ⟨⟨b1, b2⟩, ⟨b3, b4⟩, ?_, ?_, ?_, ?_, ?_⟩, ⟨Nat.le_refl _, by unfold maxLen; omega⟩, hk.reads' (Term.veil_reads _ _)⟩, hB⟩
  · rw [hpl]; exact hT.ok.pl
  · show (-9223372036854775808 : Int) ≤ 0 ∧ (0 : Int) ≤ 9223372036854775807; omega
  · unfold maxLen; show (0 : Nat) ≤ _; omega
  · unfold maxLen; show (0 : Nat) ≤ _; omega
  · unfold maxLen; show (0 : Nat) ≤ _; omega

set_option maxRecDepth 100000 in
set_option maxHeartbeats 12800000 in
theorem put_any (x : ByteArray) (k op pl nn k' op' pl' nn' : Int) (nm ar ex nm' ar' ex' : ByteArray) (p p' : Option Addr) (l l' c c' : Nat) (t u : Tm) (w : World) (hT : TmIs w ⟨k, op, pl, nn, nm, ar, ex⟩ p l c t) (hU : TmIs w ⟨k', op', pl', nn', nm', ar', ex'⟩ p' l' c' u) :
    Calls Tryz.prog 65 #[.string x, .agg #[.int .u8 k, .int .u8 op, .int .i64 pl, .int .i64 nn, .string nm, .string ar, .string ex, .slice p l c], .agg #[.int .u8 k', .int .u8 op', .int .i64 pl', .int .i64 nn', .string nm', .string ar', .string ex', .slice p' l' c']] w (PutEnd x t u w) := by
  have hm := fun W => term_walk W 9 pl (some ⟨w.heap.size + 3, 0, none⟩) 2 2
  have hfin := fun (K O : Int) (hK : K = opK x) (hO : O = opO x) w1 hb W hW hB => put_fin (W := W) (w1 := w1) hT hU hK hO hb hW hB
  have HM := Lib.hid hm; have HFIN := Lib.hid hfin
  clear hm hT hU hfin
  have hways : x = wPut ∨ x = wAdd ∨ x = wSub ∨ x = wMul ∨ x = wLess ∨ x = wIs ∨ (x ≠ wPut ∧ x ≠ wAdd ∧ x ≠ wSub ∧ x ≠ wMul ∧ x ≠ wLess ∧ x ≠ wIs) := by
    by_cases h1 : x = wPut; · exact .inl h1
    by_cases h2 : x = wAdd; · exact .inr (.inl h2)
    by_cases h3 : x = wSub; · exact .inr (.inr (.inl h3))
    by_cases h4 : x = wMul; · exact .inr (.inr (.inr (.inl h4)))
    by_cases h5 : x = wLess; · exact .inr (.inr (.inr (.inr (.inl h5))))
    by_cases h6 : x = wIs; · exact .inr (.inr (.inr (.inr (.inr (.inl h6)))))
    exact .inr (.inr (.inr (.inr (.inr (.inr ⟨h1, h2, h3, h4, h5, h6⟩)))))
  rcases hways with rfl | rfl | rfl | rfl | rfl | rfl | ⟨h1, h2, h3, h4, h5, h6⟩
  · have e0 : (wPut.toList == [58, 61]) = true := by rw [tlPut]; decide
    have e1 : (wPut.toList == [43]) = false := by rw [tlPut]; decide
    have e2 : (wPut.toList == [45]) = false := by rw [tlPut]; decide
    have e3 : (wPut.toList == [42]) = false := by rw [tlPut]; decide
    have e4 : (wPut.toList == [60]) = false := by rw [tlPut]; decide
    have e5 : (wPut.toList == [61]) = false := by rw [tlPut]; decide
    have hK : (8 : Int) = opK wPut := by decide +kernel
    have hO : (0 : Int) = opO wPut := by decide +kernel
    have HK := Lib.hid hK; have HO := Lib.hid hO
    clear hK hO
    go_enter Tryz.func65, Tryz.ntmps65
    go_wp2_with (fail)
    refine (HM.out _).mono ?_
    rintro e w1 ⟨rfl, hb1⟩
    obtain ⟨r, _, hB⟩ := four w _ _ _ _ hb1
    have rl := lt_of_block r
    obtain ⟨⟨r0, r1, r2, r3, r4, r5, r6, r7⟩, f0, f1, f2, f3, f4, f5, f6, f7⟩ := cells8' (N := w.heap.size + 1 + 1) r
    have rl' : w.heap.size + 1 + 1 < w1.heap.size := rl
    have HB1 := Lib.hid hb1; have HB := Lib.hid hB
    clear hb1 hB r rl
    go_wp2_with (fail)
    refine bodyPost_ret (v := .agg #[.int .u8 8, .int .u8 0, .int .i64 pl, .int .i64 0, .string ⟨#[]⟩, .string ⟨#[]⟩, .string ⟨#[]⟩, .slice (some ⟨w.heap.size + 3, 0, none⟩) 2 2]) (by simp [results, Tryz.results65, go_sem, rl', r0, r1, r2, r3, r4, r5, r6, r7]) rfl (HFIN.out _ _ HK.out HO.out w1 HB1.out _ (fun i hi hn => ?_) ?_)
    · rw [Below.heap_alloc _ _ _ (by simp [World.setCell]; exact hi), Below.heap_setCell _ _ _ _ hn, Below.heap_setCell _ _ _ _ hn, Below.heap_setCell _ _ _ _ hn, Below.heap_setCell _ _ _ _ hn, Below.heap_setCell _ _ _ _ hn, Below.heap_setCell _ _ _ _ hn, Below.heap_setCell _ _ _ _ hn, Below.heap_setCell _ _ _ _ hn]
    · have hle : ∀ off : Nat, w.heap.size ≤ (⟨w.heap.size + 1 + 1, off, none⟩ : Addr).block := fun off => by (show w.heap.size ≤ w.heap.size + 1 + 1; omega)
      exact ((((((((HB.out.setCell (hle _) _).setCell (hle _) _).setCell (hle _) _).setCell (hle _) _).setCell (hle _) _).setCell (hle _) _).setCell (hle _) _).setCell (hle _) _).alloc (by simp [World.setCell]; exact HB.out.size) _
  · have e0 : (wAdd.toList == [58, 61]) = false := by rw [tlAdd]; decide
    have e1 : (wAdd.toList == [43]) = true := by rw [tlAdd]; decide
    have e2 : (wAdd.toList == [45]) = false := by rw [tlAdd]; decide
    have e3 : (wAdd.toList == [42]) = false := by rw [tlAdd]; decide
    have e4 : (wAdd.toList == [60]) = false := by rw [tlAdd]; decide
    have e5 : (wAdd.toList == [61]) = false := by rw [tlAdd]; decide
    have hK : (9 : Int) = opK wAdd := by decide +kernel
    have hO : (1 : Int) = opO wAdd := by decide +kernel
    have HK := Lib.hid hK; have HO := Lib.hid hO
    clear hK hO
    go_enter Tryz.func65, Tryz.ntmps65
    go_wp2_with (fail)
    refine (HM.out _).mono ?_
    rintro e w1 ⟨rfl, hb1⟩
    obtain ⟨r, _, hB⟩ := four w _ _ _ _ hb1
    have rl := lt_of_block r
    obtain ⟨⟨r0, r1, r2, r3, r4, r5, r6, r7⟩, f0, f1, f2, f3, f4, f5, f6, f7⟩ := cells8' (N := w.heap.size + 1 + 1) r
    have rl' : w.heap.size + 1 + 1 < w1.heap.size := rl
    have HB1 := Lib.hid hb1; have HB := Lib.hid hB
    clear hb1 hB r rl
    go_wp2_with (fail)
    refine bodyPost_ret (v := .agg #[.int .u8 9, .int .u8 1, .int .i64 pl, .int .i64 0, .string ⟨#[]⟩, .string ⟨#[]⟩, .string ⟨#[]⟩, .slice (some ⟨w.heap.size + 3, 0, none⟩) 2 2]) (by simp [results, Tryz.results65, go_sem, rl', r0, r1, r2, r3, r4, r5, r6, r7]) rfl (HFIN.out _ _ HK.out HO.out w1 HB1.out _ (fun i hi hn => ?_) ?_)
    · rw [Below.heap_alloc _ _ _ (by simp [World.setCell]; exact hi), Below.heap_setCell _ _ _ _ hn, Below.heap_setCell _ _ _ _ hn, Below.heap_setCell _ _ _ _ hn, Below.heap_setCell _ _ _ _ hn, Below.heap_setCell _ _ _ _ hn, Below.heap_setCell _ _ _ _ hn, Below.heap_setCell _ _ _ _ hn, Below.heap_setCell _ _ _ _ hn]
    · have hle : ∀ off : Nat, w.heap.size ≤ (⟨w.heap.size + 1 + 1, off, none⟩ : Addr).block := fun off => by (show w.heap.size ≤ w.heap.size + 1 + 1; omega)
      exact ((((((((HB.out.setCell (hle _) _).setCell (hle _) _).setCell (hle _) _).setCell (hle _) _).setCell (hle _) _).setCell (hle _) _).setCell (hle _) _).setCell (hle _) _).alloc (by simp [World.setCell]; exact HB.out.size) _
  · have e0 : (wSub.toList == [58, 61]) = false := by rw [tlSub]; decide
    have e1 : (wSub.toList == [43]) = false := by rw [tlSub]; decide
    have e2 : (wSub.toList == [45]) = true := by rw [tlSub]; decide
    have e3 : (wSub.toList == [42]) = false := by rw [tlSub]; decide
    have e4 : (wSub.toList == [60]) = false := by rw [tlSub]; decide
    have e5 : (wSub.toList == [61]) = false := by rw [tlSub]; decide
    have hK : (9 : Int) = opK wSub := by decide +kernel
    have hO : (2 : Int) = opO wSub := by decide +kernel
    have HK := Lib.hid hK; have HO := Lib.hid hO
    clear hK hO
    go_enter Tryz.func65, Tryz.ntmps65
    go_wp2_with (fail)
    refine (HM.out _).mono ?_
    rintro e w1 ⟨rfl, hb1⟩
    obtain ⟨r, _, hB⟩ := four w _ _ _ _ hb1
    have rl := lt_of_block r
    obtain ⟨⟨r0, r1, r2, r3, r4, r5, r6, r7⟩, f0, f1, f2, f3, f4, f5, f6, f7⟩ := cells8' (N := w.heap.size + 1 + 1) r
    have rl' : w.heap.size + 1 + 1 < w1.heap.size := rl
    have HB1 := Lib.hid hb1; have HB := Lib.hid hB
    clear hb1 hB r rl
    go_wp2_with (fail)
    refine bodyPost_ret (v := .agg #[.int .u8 9, .int .u8 2, .int .i64 pl, .int .i64 0, .string ⟨#[]⟩, .string ⟨#[]⟩, .string ⟨#[]⟩, .slice (some ⟨w.heap.size + 3, 0, none⟩) 2 2]) (by simp [results, Tryz.results65, go_sem, rl', r0, r1, r2, r3, r4, r5, r6, r7]) rfl (HFIN.out _ _ HK.out HO.out w1 HB1.out _ (fun i hi hn => ?_) ?_)
    · rw [Below.heap_alloc _ _ _ (by simp [World.setCell]; exact hi), Below.heap_setCell _ _ _ _ hn, Below.heap_setCell _ _ _ _ hn, Below.heap_setCell _ _ _ _ hn, Below.heap_setCell _ _ _ _ hn, Below.heap_setCell _ _ _ _ hn, Below.heap_setCell _ _ _ _ hn, Below.heap_setCell _ _ _ _ hn, Below.heap_setCell _ _ _ _ hn]
    · have hle : ∀ off : Nat, w.heap.size ≤ (⟨w.heap.size + 1 + 1, off, none⟩ : Addr).block := fun off => by (show w.heap.size ≤ w.heap.size + 1 + 1; omega)
      exact ((((((((HB.out.setCell (hle _) _).setCell (hle _) _).setCell (hle _) _).setCell (hle _) _).setCell (hle _) _).setCell (hle _) _).setCell (hle _) _).setCell (hle _) _).alloc (by simp [World.setCell]; exact HB.out.size) _
  · have e0 : (wMul.toList == [58, 61]) = false := by rw [tlMul]; decide
    have e1 : (wMul.toList == [43]) = false := by rw [tlMul]; decide
    have e2 : (wMul.toList == [45]) = false := by rw [tlMul]; decide
    have e3 : (wMul.toList == [42]) = true := by rw [tlMul]; decide
    have e4 : (wMul.toList == [60]) = false := by rw [tlMul]; decide
    have e5 : (wMul.toList == [61]) = false := by rw [tlMul]; decide
    have hK : (9 : Int) = opK wMul := by decide +kernel
    have hO : (3 : Int) = opO wMul := by decide +kernel
    have HK := Lib.hid hK; have HO := Lib.hid hO
    clear hK hO
    go_enter Tryz.func65, Tryz.ntmps65
    go_wp2_with (fail)
    refine (HM.out _).mono ?_
    rintro e w1 ⟨rfl, hb1⟩
    obtain ⟨r, _, hB⟩ := four w _ _ _ _ hb1
    have rl := lt_of_block r
    obtain ⟨⟨r0, r1, r2, r3, r4, r5, r6, r7⟩, f0, f1, f2, f3, f4, f5, f6, f7⟩ := cells8' (N := w.heap.size + 1 + 1) r
    have rl' : w.heap.size + 1 + 1 < w1.heap.size := rl
    have HB1 := Lib.hid hb1; have HB := Lib.hid hB
    clear hb1 hB r rl
    go_wp2_with (fail)
    refine bodyPost_ret (v := .agg #[.int .u8 9, .int .u8 3, .int .i64 pl, .int .i64 0, .string ⟨#[]⟩, .string ⟨#[]⟩, .string ⟨#[]⟩, .slice (some ⟨w.heap.size + 3, 0, none⟩) 2 2]) (by simp [results, Tryz.results65, go_sem, rl', r0, r1, r2, r3, r4, r5, r6, r7]) rfl (HFIN.out _ _ HK.out HO.out w1 HB1.out _ (fun i hi hn => ?_) ?_)
    · rw [Below.heap_alloc _ _ _ (by simp [World.setCell]; exact hi), Below.heap_setCell _ _ _ _ hn, Below.heap_setCell _ _ _ _ hn, Below.heap_setCell _ _ _ _ hn, Below.heap_setCell _ _ _ _ hn, Below.heap_setCell _ _ _ _ hn, Below.heap_setCell _ _ _ _ hn, Below.heap_setCell _ _ _ _ hn, Below.heap_setCell _ _ _ _ hn]
    · have hle : ∀ off : Nat, w.heap.size ≤ (⟨w.heap.size + 1 + 1, off, none⟩ : Addr).block := fun off => by (show w.heap.size ≤ w.heap.size + 1 + 1; omega)
      exact ((((((((HB.out.setCell (hle _) _).setCell (hle _) _).setCell (hle _) _).setCell (hle _) _).setCell (hle _) _).setCell (hle _) _).setCell (hle _) _).setCell (hle _) _).alloc (by simp [World.setCell]; exact HB.out.size) _
  · have e0 : (wLess.toList == [58, 61]) = false := by rw [tlLess]; decide
    have e1 : (wLess.toList == [43]) = false := by rw [tlLess]; decide
    have e2 : (wLess.toList == [45]) = false := by rw [tlLess]; decide
    have e3 : (wLess.toList == [42]) = false := by rw [tlLess]; decide
    have e4 : (wLess.toList == [60]) = true := by rw [tlLess]; decide
    have e5 : (wLess.toList == [61]) = false := by rw [tlLess]; decide
    have hK : (9 : Int) = opK wLess := by decide +kernel
    have hO : (4 : Int) = opO wLess := by decide +kernel
    have HK := Lib.hid hK; have HO := Lib.hid hO
    clear hK hO
    go_enter Tryz.func65, Tryz.ntmps65
    go_wp2_with (fail)
    refine (HM.out _).mono ?_
    rintro e w1 ⟨rfl, hb1⟩
    obtain ⟨r, _, hB⟩ := four w _ _ _ _ hb1
    have rl := lt_of_block r
    obtain ⟨⟨r0, r1, r2, r3, r4, r5, r6, r7⟩, f0, f1, f2, f3, f4, f5, f6, f7⟩ := cells8' (N := w.heap.size + 1 + 1) r
    have rl' : w.heap.size + 1 + 1 < w1.heap.size := rl
    have HB1 := Lib.hid hb1; have HB := Lib.hid hB
    clear hb1 hB r rl
    go_wp2_with (fail)
    refine bodyPost_ret (v := .agg #[.int .u8 9, .int .u8 4, .int .i64 pl, .int .i64 0, .string ⟨#[]⟩, .string ⟨#[]⟩, .string ⟨#[]⟩, .slice (some ⟨w.heap.size + 3, 0, none⟩) 2 2]) (by simp [results, Tryz.results65, go_sem, rl', r0, r1, r2, r3, r4, r5, r6, r7]) rfl (HFIN.out _ _ HK.out HO.out w1 HB1.out _ (fun i hi hn => ?_) ?_)
    · rw [Below.heap_alloc _ _ _ (by simp [World.setCell]; exact hi), Below.heap_setCell _ _ _ _ hn, Below.heap_setCell _ _ _ _ hn, Below.heap_setCell _ _ _ _ hn, Below.heap_setCell _ _ _ _ hn, Below.heap_setCell _ _ _ _ hn, Below.heap_setCell _ _ _ _ hn, Below.heap_setCell _ _ _ _ hn, Below.heap_setCell _ _ _ _ hn]
    · have hle : ∀ off : Nat, w.heap.size ≤ (⟨w.heap.size + 1 + 1, off, none⟩ : Addr).block := fun off => by (show w.heap.size ≤ w.heap.size + 1 + 1; omega)
      exact ((((((((HB.out.setCell (hle _) _).setCell (hle _) _).setCell (hle _) _).setCell (hle _) _).setCell (hle _) _).setCell (hle _) _).setCell (hle _) _).setCell (hle _) _).alloc (by simp [World.setCell]; exact HB.out.size) _
  · have e0 : (wIs.toList == [58, 61]) = false := by rw [tlIs]; decide
    have e1 : (wIs.toList == [43]) = false := by rw [tlIs]; decide
    have e2 : (wIs.toList == [45]) = false := by rw [tlIs]; decide
    have e3 : (wIs.toList == [42]) = false := by rw [tlIs]; decide
    have e4 : (wIs.toList == [60]) = false := by rw [tlIs]; decide
    have e5 : (wIs.toList == [61]) = true := by rw [tlIs]; decide
    have hK : (9 : Int) = opK wIs := by decide +kernel
    have hO : (5 : Int) = opO wIs := by decide +kernel
    have HK := Lib.hid hK; have HO := Lib.hid hO
    clear hK hO
    go_enter Tryz.func65, Tryz.ntmps65
    go_wp2_with (fail)
    refine (HM.out _).mono ?_
    rintro e w1 ⟨rfl, hb1⟩
    obtain ⟨r, _, hB⟩ := four w _ _ _ _ hb1
    have rl := lt_of_block r
    obtain ⟨⟨r0, r1, r2, r3, r4, r5, r6, r7⟩, f0, f1, f2, f3, f4, f5, f6, f7⟩ := cells8' (N := w.heap.size + 1 + 1) r
    have rl' : w.heap.size + 1 + 1 < w1.heap.size := rl
    have HB1 := Lib.hid hb1; have HB := Lib.hid hB
    clear hb1 hB r rl
    go_wp2_with (fail)
    refine bodyPost_ret (v := .agg #[.int .u8 9, .int .u8 5, .int .i64 pl, .int .i64 0, .string ⟨#[]⟩, .string ⟨#[]⟩, .string ⟨#[]⟩, .slice (some ⟨w.heap.size + 3, 0, none⟩) 2 2]) (by simp [results, Tryz.results65, go_sem, rl', r0, r1, r2, r3, r4, r5, r6, r7]) rfl (HFIN.out _ _ HK.out HO.out w1 HB1.out _ (fun i hi hn => ?_) ?_)
    · rw [Below.heap_alloc _ _ _ (by simp [World.setCell]; exact hi), Below.heap_setCell _ _ _ _ hn, Below.heap_setCell _ _ _ _ hn, Below.heap_setCell _ _ _ _ hn, Below.heap_setCell _ _ _ _ hn, Below.heap_setCell _ _ _ _ hn, Below.heap_setCell _ _ _ _ hn, Below.heap_setCell _ _ _ _ hn, Below.heap_setCell _ _ _ _ hn]
    · have hle : ∀ off : Nat, w.heap.size ≤ (⟨w.heap.size + 1 + 1, off, none⟩ : Addr).block := fun off => by (show w.heap.size ≤ w.heap.size + 1 + 1; omega)
      exact ((((((((HB.out.setCell (hle _) _).setCell (hle _) _).setCell (hle _) _).setCell (hle _) _).setCell (hle _) _).setCell (hle _) _).setCell (hle _) _).setCell (hle _) _).alloc (by simp [World.setCell]; exact HB.out.size) _
  · have e0 : (x.toList == [58, 61]) = false := by rw [← tlPut]; exact str_no h1
    have e1 : (x.toList == [43]) = false := by rw [← tlAdd]; exact str_no h2
    have e2 : (x.toList == [45]) = false := by rw [← tlSub]; exact str_no h3
    have e3 : (x.toList == [42]) = false := by rw [← tlMul]; exact str_no h4
    have e4 : (x.toList == [60]) = false := by rw [← tlLess]; exact str_no h5
    have e5 : (x.toList == [61]) = false := by rw [← tlIs]; exact str_no h6
    have hK : (9 : Int) = opK x := by unfold opK; rw [if_neg h1]
    have hO : (0 : Int) = opO x := by unfold opO; rw [if_neg h1, if_neg h2, if_neg h3, if_neg h4, if_neg h5, if_neg h6]
    have HK := Lib.hid hK; have HO := Lib.hid hO
    clear hK hO h1 h2 h3 h4 h5 h6
    go_enter Tryz.func65, Tryz.ntmps65
    go_wp2_with (fail)
    refine (HM.out _).mono ?_
    rintro e w1 ⟨rfl, hb1⟩
    obtain ⟨r, _, hB⟩ := four w _ _ _ _ hb1
    have rl := lt_of_block r
    obtain ⟨⟨r0, r1, r2, r3, r4, r5, r6, r7⟩, f0, f1, f2, f3, f4, f5, f6, f7⟩ := cells8' (N := w.heap.size + 1 + 1) r
    have rl' : w.heap.size + 1 + 1 < w1.heap.size := rl
    have HB1 := Lib.hid hb1; have HB := Lib.hid hB
    clear hb1 hB r rl
    go_wp2_with (fail)
    refine bodyPost_ret (v := .agg #[.int .u8 9, .int .u8 0, .int .i64 pl, .int .i64 0, .string ⟨#[]⟩, .string ⟨#[]⟩, .string ⟨#[]⟩, .slice (some ⟨w.heap.size + 3, 0, none⟩) 2 2]) (by simp [results, Tryz.results65, go_sem, rl', r0, r1, r2, r3, r4, r5, r6, r7]) rfl (HFIN.out _ _ HK.out HO.out w1 HB1.out _ (fun i hi hn => ?_) ?_)
    · rw [Below.heap_alloc _ _ _ (by simp [World.setCell]; exact hi), Below.heap_setCell _ _ _ _ hn, Below.heap_setCell _ _ _ _ hn, Below.heap_setCell _ _ _ _ hn, Below.heap_setCell _ _ _ _ hn, Below.heap_setCell _ _ _ _ hn, Below.heap_setCell _ _ _ _ hn, Below.heap_setCell _ _ _ _ hn, Below.heap_setCell _ _ _ _ hn]
    · have hle : ∀ off : Nat, w.heap.size ≤ (⟨w.heap.size + 1 + 1, off, none⟩ : Addr).block := fun off => by (show w.heap.size ≤ w.heap.size + 1 + 1; omega)
      exact ((((((((HB.out.setCell (hle _) _).setCell (hle _) _).setCell (hle _) _).setCell (hle _) _).setCell (hle _) _).setCell (hle _) _).setCell (hle _) _).setCell (hle _) _).alloc (by simp [World.setCell]; exact HB.out.size) _
end Parse
end Go.Proofs.YtlmaphaipcfppaaGreatDoor
