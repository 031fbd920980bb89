/- The program's reading of tokens: all parts. -/
import Derived.Test.YtlmaphaipcfppaaGreatDoorParseP15
import Derived.Test.YtlmaphaipcfppaaGreatDoorGParseE
import Derived.Test.YtlmaphaipcfppaaGreatDoorGParseF
import Derived.Test.YtlmaphaipcfppaaGreatDoorParseP6
import Derived.Deep.RegionHeld3
import Derived.Deep.LoopGhost
import Derived.RegionTactic
namespace Go.Proofs.YtlmaphaipcfppaaGreatDoor
open Go.RowKit
set_option linter.unusedVariables false
set_option linter.unusedSimpArgs false
namespace Parse
open Token (Tok tel ToksAt)
open Term (Tm Hd TmIs Kids ret_bool ret_i64 Reads veil Flat tcells)
open Words (str_no str_yes NumLaid)
open Chars (isin BytesAt)
theorem call_rel (args : Array Value) (w : World) : (callFunc 72 args).run Tryz.prog w = .ok (.enter 72 args) w := by simp [go_sem, Tryz.func72]
set_option maxRecDepth 10000 in
set_option maxHeartbeats 6400000 in
theorem set_walk (m : Nat) (hE : ∀ m', m' ≤ m → PE 72 (fun ts m s => levelF ts m (0 + 1) s) m') : PE 49 (fun ts m s => levelF ts m 0 s) (m + 1) := by
  intro w P g n c i ts r h hL hr
  have hbox : ∀ O O' : Obj, Below w.heap.size w ((w.alloc O).alloc O') := fun O O' => ((Below.refl _ _).alloc (Nat.le_refl _) O).alloc (by simp) O'
  have hold := h.old
  have hon := fun O ty => once_walk m 0 72 (by omega) hE call_rel ((w.alloc O).alloc (.cells #[.string wPut] ty)) P g n c i (w.heap.size + 1) ty ts r (h.below (hbox O _)) (hL.below (hbox O _)) (by have hh := heap_alloc_new (w.alloc O) (.cells #[.string wPut] ty); rw [show (w.alloc O).heap.size = w.heap.size + 1 from by simp] at hh; exact hh) (by have := hold.1; omega) hr
  have HON := Lib.hid hon; have HOLD := Lib.hid hold
  clear hon h hL hold hbox hr hE
  go_enter Tryz.func49, Tryz.ntmps49
  go_wp2_with (fail)
  refine (HON.out _ _).mono ?_
  rintro e w2 (⟨hb, ⟨h, p, l, d, rfl, hT⟩, ho2, hp2⟩ | ⟨hb, rfl, ho2⟩)
  · obtain ⟨hr, _, ho3⟩ := boxes2 ho2 HOLD.out.1
    obtain ⟨⟨r0, r1, r2, r3, r4, r5, r6, r7⟩, f0, f1, f2, f3, f4, f5, f6, f7⟩ := cells8' hr
    have rl2 := lt_of_block hr
    have H := Lib.hid (And.intro hb (And.intro hT (And.intro ho3 hp2)))
    clear hb hT ho2 hp2 hr ho3
    go_wp2_with (fail)
    refine bodyPost_ret (v := .agg #[.int .u8 h.k, .int .u8 h.op, .int .i64 h.pl, .int .i64 h.n, .string h.name, .string h.arg, .string h.exn, .slice p l d]) (by simp [results, Tryz.results49, go_sem, r0, r1, r2, r3, r4, r5, r6, r7]) rfl
      (part_pass H.out.1 H.out.2.1 H.out.2.2.2 H.out.2.2.1 (by simp; omega) (by simp; omega) HOLD.out (fun k hk => set8_other _ _ _ _ _ _ _ _ _ _ _ hk) (Below.set8 w _ _ (Nat.le_refl _) _ _ _ _ _ _ _ _))
  · unfold thrown strayV
    obtain ⟨_, _, ho3⟩ := boxes2 ho2 HOLD.out.1
    have H := Lib.hid (And.intro hb ho3)
    clear hb ho2 ho3
    go_wp2_with (fail)
    exact ⟨rfl, part_thrown (bad_eq H.out.1) H.out.2⟩
theorem call_sum (args : Array Value) (w : World) : (callFunc 89 args).run Tryz.prog w = .ok (.enter 89 args) w := by simp [go_sem, Tryz.func89]
set_option maxRecDepth 10000 in
set_option maxHeartbeats 6400000 in
theorem rel_walk (m : Nat) (hE : ∀ m', m' ≤ m → PE 89 (fun ts m s => levelF ts m (1 + 1) s) m') : PE 72 (fun ts m s => levelF ts m 1 s) (m + 1) := by
  intro w P g n c i ts r h hL hr
  have hbox : ∀ O O' : Obj, Below w.heap.size w ((w.alloc O).alloc O') := fun O O' => ((Below.refl _ _).alloc (Nat.le_refl _) O).alloc (by simp) O'
  have hold := h.old
  have hon := fun O ty => once_walk m 1 89 (by omega) hE call_sum ((w.alloc O).alloc (.cells #[.string wLess, .string wIs] ty)) P g n c i (w.heap.size + 1) ty ts r (h.below (hbox O _)) (hL.below (hbox O _)) (by have hh := heap_alloc_new (w.alloc O) (.cells #[.string wLess, .string wIs] ty); rw [show (w.alloc O).heap.size = w.heap.size + 1 from by simp] at hh; exact hh) (by have := hold.1; omega) hr
  have HON := Lib.hid hon; have HOLD := Lib.hid hold
  clear hon h hL hold hbox hr hE
  go_enter Tryz.func72, Tryz.ntmps72
  go_wp2_with (fail)
  refine (HON.out _ _).mono ?_
  rintro e w2 (⟨hb, ⟨h, p, l, d, rfl, hT⟩, ho2, hp2⟩ | ⟨hb, rfl, ho2⟩)
  · obtain ⟨hr, _, ho3⟩ := boxes2 ho2 HOLD.out.1
    obtain ⟨⟨r0, r1, r2, r3, r4, r5, r6, r7⟩, f0, f1, f2, f3, f4, f5, f6, f7⟩ := cells8' hr
    have rl2 := lt_of_block hr
    have H := Lib.hid (And.intro hb (And.intro hT (And.intro ho3 hp2)))
    clear hb hT ho2 hp2 hr ho3
    go_wp2_with (fail)
    refine bodyPost_ret (v := .agg #[.int .u8 h.k, .int .u8 h.op, .int .i64 h.pl, .int .i64 h.n, .string h.name, .string h.arg, .string h.exn, .slice p l d]) (by simp [results, Tryz.results72, go_sem, r0, r1, r2, r3, r4, r5, r6, r7]) rfl
      (part_pass H.out.1 H.out.2.1 H.out.2.2.2 H.out.2.2.1 (by simp; omega) (by simp; omega) HOLD.out (fun k hk => set8_other _ _ _ _ _ _ _ _ _ _ _ hk) (Below.set8 w _ _ (Nat.le_refl _) _ _ _ _ _ _ _ _))
  · unfold thrown strayV
    obtain ⟨_, _, ho3⟩ := boxes2 ho2 HOLD.out.1
    have H := Lib.hid (And.intro hb ho3)
    clear hb ho2 ho3
    go_wp2_with (fail)
    exact ⟨rfl, part_thrown (bad_eq H.out.1) H.out.2⟩
theorem call_prod (args : Array Value) (w : World) : (callFunc 101 args).run Tryz.prog w = .ok (.enter 101 args) w := by simp [go_sem, Tryz.func101]
set_option maxRecDepth 10000 in
set_option maxHeartbeats 6400000 in
theorem sum_walk (m : Nat) (hE : ∀ m', m' ≤ m → PE 101 (fun ts m s => levelF ts m (2 + 1) s) m') : PE 89 (fun ts m s => levelF ts m 2 s) (m + 1) := by
  intro w P g n c i ts r h hL hr
  have hbox : ∀ O O' : Obj, Below w.heap.size w ((w.alloc O).alloc O') := fun O O' => ((Below.refl _ _).alloc (Nat.le_refl _) O).alloc (by simp) O'
  have hold := h.old
  have hon := fun O ty => row_walk m 2 101 (by omega) hE call_prod ((w.alloc O).alloc (.cells #[.string wAdd, .string wSub] ty)) P g n c i (w.heap.size + 1) ty ts r (h.below (hbox O _)) (hL.below (hbox O _)) (by have hh := heap_alloc_new (w.alloc O) (.cells #[.string wAdd, .string wSub] ty); rw [show (w.alloc O).heap.size = w.heap.size + 1 from by simp] at hh; exact hh) (by have := hold.1; omega) hr
  have HON := Lib.hid hon; have HOLD := Lib.hid hold
  clear hon h hL hold hbox hr hE
  go_enter Tryz.func89, Tryz.ntmps89
  go_wp2_with (fail)
  refine (HON.out _ _).mono ?_
  rintro e w2 (⟨hb, ⟨h, p, l, d, rfl, hT⟩, ho2, hp2⟩ | ⟨hb, rfl, ho2⟩)
  · obtain ⟨hr, _, ho3⟩ := boxes2 ho2 HOLD.out.1
    obtain ⟨⟨r0, r1, r2, r3, r4, r5, r6, r7⟩, f0, f1, f2, f3, f4, f5, f6, f7⟩ := cells8' hr
    have rl2 := lt_of_block hr
    have H := Lib.hid (And.intro hb (And.intro hT (And.intro ho3 hp2)))
    clear hb hT ho2 hp2 hr ho3
    go_wp2_with (fail)
    refine bodyPost_ret (v := .agg #[.int .u8 h.k, .int .u8 h.op, .int .i64 h.pl, .int .i64 h.n, .string h.name, .string h.arg, .string h.exn, .slice p l d]) (by simp [results, Tryz.results89, go_sem, r0, r1, r2, r3, r4, r5, r6, r7]) rfl
      (part_pass H.out.1 H.out.2.1 H.out.2.2.2 H.out.2.2.1 (by simp; omega) (by simp; omega) HOLD.out (fun k hk => set8_other _ _ _ _ _ _ _ _ _ _ _ hk) (Below.set8 w _ _ (Nat.le_refl _) _ _ _ _ _ _ _ _))
  · unfold thrown strayV
    obtain ⟨_, _, ho3⟩ := boxes2 ho2 HOLD.out.1
    have H := Lib.hid (And.intro hb ho3)
    clear hb ho2 ho3
    go_wp2_with (fail)
    exact ⟨rfl, part_thrown (bad_eq H.out.1) H.out.2⟩
theorem call_apply (args : Array Value) (w : World) : (callFunc 110 args).run Tryz.prog w = .ok (.enter 110 args) w := by simp [go_sem, Tryz.func110]
set_option maxRecDepth 10000 in
set_option maxHeartbeats 6400000 in
theorem prod_walk (m : Nat) (hE : ∀ m', m' ≤ m → PE 110 (fun ts m s => levelF ts m (3 + 1) s) m') : PE 101 (fun ts m s => levelF ts m 3 s) (m + 1) := by
  intro w P g n c i ts r h hL hr
  have hbox : ∀ O O' : Obj, Below w.heap.size w ((w.alloc O).alloc O') := fun O O' => ((Below.refl _ _).alloc (Nat.le_refl _) O).alloc (by simp) O'
  have hold := h.old
  have hon := fun O ty => row_walk m 3 110 (by omega) hE call_apply ((w.alloc O).alloc (.cells #[.string wMul] ty)) P g n c i (w.heap.size + 1) ty ts r (h.below (hbox O _)) (hL.below (hbox O _)) (by have hh := heap_alloc_new (w.alloc O) (.cells #[.string wMul] ty); rw [show (w.alloc O).heap.size = w.heap.size + 1 from by simp] at hh; exact hh) (by have := hold.1; omega) hr
  have HON := Lib.hid hon; have HOLD := Lib.hid hold
  clear hon h hL hold hbox hr hE
  go_enter Tryz.func101, Tryz.ntmps101
  go_wp2_with (fail)
  refine (HON.out _ _).mono ?_
  rintro e w2 (⟨hb, ⟨h, p, l, d, rfl, hT⟩, ho2, hp2⟩ | ⟨hb, rfl, ho2⟩)
  · obtain ⟨hr, _, ho3⟩ := boxes2 ho2 HOLD.out.1
    obtain ⟨⟨r0, r1, r2, r3, r4, r5, r6, r7⟩, f0, f1, f2, f3, f4, f5, f6, f7⟩ := cells8' hr
    have rl2 := lt_of_block hr
    have H := Lib.hid (And.intro hb (And.intro hT (And.intro ho3 hp2)))
    clear hb hT ho2 hp2 hr ho3
    go_wp2_with (fail)
    refine bodyPost_ret (v := .agg #[.int .u8 h.k, .int .u8 h.op, .int .i64 h.pl, .int .i64 h.n, .string h.name, .string h.arg, .string h.exn, .slice p l d]) (by simp [results, Tryz.results101, go_sem, r0, r1, r2, r3, r4, r5, r6, r7]) rfl
      (part_pass H.out.1 H.out.2.1 H.out.2.2.2 H.out.2.2.1 (by simp; omega) (by simp; omega) HOLD.out (fun k hk => set8_other _ _ _ _ _ _ _ _ _ _ _ hk) (Below.set8 w _ _ (Nat.le_refl _) _ _ _ _ _ _ _ _))
  · unfold thrown strayV
    obtain ⟨_, _, ho3⟩ := boxes2 ho2 HOLD.out.1
    have H := Lib.hid (And.intro hb ho3)
    clear hb ho2 ho3
    go_wp2_with (fail)
    exact ⟨rfl, part_thrown (bad_eq H.out.1) H.out.2⟩
section
variable {w : World} {P g n c i : Nat} {ts : List Tok}
theorem syes {x : ByteArray} {l : List UInt8} (hl : x.toList = l) (h : PR w P g n c i ts) (hx : x ∈ wordsL) (ht : textOf ts i = x) : ((tel ts i).s.toList == l) = true := by
  rw [(h.good.is_text (by rw [h.row.len]; exact h.lt) hx).2 ht, hl]; exact beq_self_eq_true l
theorem sno {x : ByteArray} {l : List UInt8} (hl : x.toList = l) (h : PR w P g n c i ts) (hx : x ∈ wordsL) (ht : textOf ts i ≠ x) : ((tel ts i).s.toList == l) = false := by
  rw [← hl]; exact str_no fun e => ht ((h.good.is_text (by rw [h.row.len]; exact h.lt) hx).1 e)
end
theorem unary_all (m : Nat) (hE : ∀ m', m' ≤ m → PE 27 exprF m') (hU : ∀ m', m' ≤ m → PE 116 unaryF m') : PE 116 unaryF (m + 1) := by
  intro w P g n c i ts r h hL hr
  unfold unaryF at hr
  rw [if_neg (by simp)] at hr
  have hpre : preN (textOf ts i) = if textOf ts i = wFst then 0 else if textOf ts i = wSnd then 1 else if textOf ts i = wRef then 2 else if textOf ts i = wGet then 3 else 4 := rfl
  by_cases c1 : textOf ts i = wFst
  · have hp : preN (textOf ts i) = 0 := by rw [hpre, if_pos c1]
    rw [if_pos (by rw [hp]; omega), hp] at hr
    obtain ⟨q, hq, he⟩ := Option.map_eq_some_iff.1 hr
    rw [← he]
    exact unary_wFst m hU w P g n c i ts q h hL c1 hq
  by_cases c2 : textOf ts i = wSnd
  · have hp : preN (textOf ts i) = 1 := by rw [hpre, if_neg c1, if_pos c2]
    rw [if_pos (by rw [hp]; omega), hp] at hr
    obtain ⟨q, hq, he⟩ := Option.map_eq_some_iff.1 hr
    rw [← he]
    exact unary_wSnd m hU w P g n c i ts q h hL c2 hq
  by_cases c3 : textOf ts i = wRef
  · have hp : preN (textOf ts i) = 2 := by rw [hpre, if_neg c1, if_neg c2, if_pos c3]
    rw [if_pos (by rw [hp]; omega), hp] at hr
    obtain ⟨q, hq, he⟩ := Option.map_eq_some_iff.1 hr
    rw [← he]
    exact unary_wRef m hU w P g n c i ts q h hL c3 hq
  by_cases c4 : textOf ts i = wGet
  · have hp : preN (textOf ts i) = 3 := by rw [hpre, if_neg c1, if_neg c2, if_neg c3, if_pos c4]
    rw [if_pos (by rw [hp]; omega), hp] at hr
    obtain ⟨q, hq, he⟩ := Option.map_eq_some_iff.1 hr
    rw [← he]
    exact unary_wGet m hU w P g n c i ts q h hL c4 hq
  have hp : preN (textOf ts i) = 4 := by rw [hpre, if_neg c1, if_neg c2, if_neg c3, if_neg c4]
  rw [if_neg (by rw [hp]; omega)] at hr
  have n1 := sno tl_wGet h (by simp [wordsL]) c4
  have n2 := sno tl_wRef h (by simp [wordsL]) c3
  have n3 := sno tl_wFst h (by simp [wordsL]) c1
  have n4 := sno tl_wSnd h (by simp [wordsL]) c2
  by_cases c5 : textOf ts i = wRaise
  · rw [if_pos c5] at hr
    obtain ⟨q, hq, he⟩ := Option.map_eq_some_iff.1 hr
    rw [← he]
    exact unary_raise w P g n c i ts _ h n1 n2 n3 n4 (syes tl_wRaise h (by simp [wordsL]) c5) (fun W hb => raise_walk m hU W P g n c i ts q (h.below hb) (hL.below hb) c5 hq)
  rw [if_neg c5] at hr
  have n5 := sno tl_wRaise h (by simp [wordsL]) c5
  have hlen : i < ts.length := by rw [h.row.len]; exact h.lt
  by_cases c6 : textOf ts i = wOpen
  · have hk := textOf_some ts (i := i) (by rw [c6]; exact (words_apart wOpen (by simp [wordsL])).2.2.2)
    rw [if_neg (show ¬ (tel ts i).k = 1 by omega), if_neg (show ¬ (tel ts i).k = 2 by omega), want_ok c6] at hr
    obtain ⟨r1, hr1, hR⟩ := Option.bind_eq_some_iff.1 hr
    exact unary_open w P g n c i ts _ h n1 n2 n3 n4 n5 (syes tl_wOpen h (by simp [wordsL]) c6) (fun W hb => brackets_walk m hE W P g n c i ts r1 r (h.below hb) (hL.below hb) c6 hr1 hR)
  have n6 := sno tl_wOpen h (by simp [wordsL]) c6
  have hlf : r.1 = (leafF ts i).1 ∧ (r.1.bad = false → r = leafF ts i) := by
    unfold leafF
    by_cases k1 : (tel ts i).k = 1
    · rw [if_pos k1] at hr ⊢
      injection hr with hr
      rw [← hr]
      exact ⟨rfl, fun _ => rfl⟩
    by_cases k2 : (tel ts i).k = 2
    · rw [if_neg k1, if_pos k2] at hr ⊢
      injection hr with hr
      rw [← hr]
      exact ⟨rfl, fun _ => rfl⟩
    · rw [if_neg k1, if_neg k2, want_no c6] at hr
      rw [if_neg k1, if_neg k2]
      obtain ⟨r1, hr1, hR⟩ := Option.bind_eq_some_iff.1 hr
      have hb := expr_bad ts rfl hr1
      rw [if_pos (.inl (by rw [hb])), hb, want_bad ts rfl] at hR
      injection hR with hR
      rw [← hR]
      exact ⟨rfl, fun h => by cases h⟩
  refine unary_leaf w P g n c i ts _ h n1 n2 n3 n4 n5 n6 (fun W hb => (leaf_walk W P g n c i ts (h.below hb) (hL.below hb)).mono ?_)
  rintro e w' (⟨hb, hT, ho, hp⟩ | ⟨hb, he, ho⟩)
  · have hrb : r.1.bad = false := by rw [hlf.1]; exact hb
    rw [hlf.2 hrb]
    exact .inl ⟨hb, hT, ho, hp⟩
  · exact .inr ⟨by rw [hlf.1]; exact hb, by rw [hlf.1]; exact he, ho⟩
theorem expr_all (m : Nat) (hE : ∀ m', m' ≤ m → PE 27 exprF m') (hS : PE 49 (fun ts m s => levelF ts m 0 s) m) : PE 27 exprF (m + 1) := by
  intro w P g n c i ts r h hL hr
  unfold exprF at hr
  rw [if_neg (by simp)] at hr
  by_cases c1 : textOf ts i = wLet
  · rw [if_pos c1, want_ok c1] at hr
    obtain ⟨q, hq, he⟩ := Option.map_eq_some_iff.1 hr
    rw [← he]
    exact expr_let w P g n c i ts _ h (syes tl_wLet h (by simp [wordsL]) c1) (fun W hb => let_walk m hE W P g n c i ts q (h.below hb) (hL.below hb) c1 hq)
  rw [if_neg c1] at hr
  have n1 := sno tl_wLet h (by simp [wordsL]) c1
  by_cases c2 : textOf ts i = wLetrec
  · rw [if_pos c2, want_ok c2] at hr
    obtain ⟨q, hq, he⟩ := Option.map_eq_some_iff.1 hr
    rw [← he]
    exact expr_letrec w P g n c i ts _ h n1 (syes tl_wLetrec h (by simp [wordsL]) c2) (fun W hb => letrec_walk m hE W P g n c i ts q (h.below hb) (hL.below hb) c2 hq)
  rw [if_neg c2] at hr
  have n2 := sno tl_wLetrec h (by simp [wordsL]) c2
  by_cases c3 : textOf ts i = wFn
  · rw [if_pos c3, want_ok c3] at hr
    obtain ⟨q, hq, he⟩ := Option.map_eq_some_iff.1 hr
    rw [← he]
    exact expr_fn w P g n c i ts _ h n1 n2 (syes tl_wFn h (by simp [wordsL]) c3) (fun W hb => fn_walk m hE W P g n c i ts q (h.below hb) (hL.below hb) c3 hq)
  rw [if_neg c3] at hr
  have n3 := sno tl_wFn h (by simp [wordsL]) c3
  by_cases c4 : textOf ts i = wIf
  · rw [if_pos c4, want_ok c4] at hr
    obtain ⟨q, hq, he⟩ := Option.map_eq_some_iff.1 hr
    rw [← he]
    exact expr_choice w P g n c i ts _ h n1 n2 n3 (syes tl_wIf h (by simp [wordsL]) c4) (fun W hb => choice_walk m hE W P g n c i ts q (h.below hb) (hL.below hb) c4 hq)
  rw [if_neg c4] at hr
  have n4 := sno tl_wIf h (by simp [wordsL]) c4
  by_cases c5 : textOf ts i = wTry
  · rw [if_pos c5, want_ok c5] at hr
    obtain ⟨q, hq, he⟩ := Option.bind_eq_some_iff.1 hr
    obtain ⟨q2, hq2, he2⟩ := Option.map_eq_some_iff.1 he
    rw [← he2]
    exact expr_handler w P g n c i ts _ h n1 n2 n3 n4 (syes tl_wTry h (by simp [wordsL]) c5) (fun W hb => handler_walk m hE W P g n c i ts q q2 (h.below hb) (hL.below hb) c5 hq hq2)
  rw [if_neg c5] at hr
  exact expr_set w P g n c i ts _ h n1 n2 n3 n4 (sno tl_wTry h (by simp [wordsL]) c5) (fun W hb => hS W P g n c i ts r (h.below hb) (hL.below hb) hr)
theorem pe_zero (K : Nat) (F : List Tok → Nat → St → Option (St × Tm)) (h : ∀ ts s, F ts 0 s = none) : PE K F 0 := fun w P g n c i ts r _ _ hr => by rw [h] at hr; cases hr
/-- All parts, whatever the fuel. -/
theorem parts_all : ∀ m : Nat, ∀ m', m' ≤ m → PE 27 exprF m' ∧ PE 49 (fun ts m s => levelF ts m 0 s) m' ∧ PE 72 (fun ts m s => levelF ts m 1 s) m' ∧ PE 89 (fun ts m s => levelF ts m 2 s) m' ∧ PE 101 (fun ts m s => levelF ts m 3 s) m' ∧ PE 110 (fun ts m s => levelF ts m 4 s) m' ∧ PE 110 applyF m' ∧ PE 116 unaryF m' := by
  intro m
  induction m with
  | zero =>
    intro m' hm'
    obtain rfl : m' = 0 := by omega
    refine ⟨pe_zero _ _ ?_, pe_zero _ _ ?_, pe_zero _ _ ?_, pe_zero _ _ ?_, pe_zero _ _ ?_, pe_zero _ _ ?_, pe_zero _ _ ?_, pe_zero _ _ ?_⟩ <;> (intro ts s; simp [exprF, levelF, applyF, unaryF])
  | succ m ih =>
    intro m' hm'
    by_cases hlt : m' ≤ m
    · exact ih m' hlt
    obtain rfl : m' = m + 1 := by omega
    refine ⟨expr_all m (fun m' h => (ih m' h).1) (ih m (Nat.le_refl _)).2.1, set_walk m (fun m' h => (ih m' h).2.2.1), rel_walk m (fun m' h => (ih m' h).2.2.2.1), sum_walk m (fun m' h => (ih m' h).2.2.2.2.1), prod_walk m (fun m' h => (ih m' h).2.2.2.2.2.1), ?_, ?_, unary_all m (fun m' h => (ih m' h).1) (fun m' h => (ih m' h).2.2.2.2.2.2.2)⟩
    · intro w P g n c i ts r h hL hr
      have hr' : applyF ts m ⟨i, false⟩ = some r := by
        have : levelF ts (m + 1) 4 ⟨i, false⟩ = some r := hr
        unfold levelF at this
        rw [if_pos rfl] at this
        exact this
      exact (ih m (Nat.le_refl _)).2.2.2.2.2.2.1 w P g n c i ts r h hL hr'
    · intro w P g n c i ts r h hL hr
      exact apply_walk m (fun m' h => (ih m' h).2.2.2.2.2.2.2) w P g n c i ts r h hL hr
theorem expr_walk (m : Nat) : PE 27 exprF m := (parts_all m m (Nat.le_refl _)).1
end Parse
end Go.Proofs.YtlmaphaipcfppaaGreatDoor
