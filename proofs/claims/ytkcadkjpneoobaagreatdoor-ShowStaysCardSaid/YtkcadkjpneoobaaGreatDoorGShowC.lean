/-The program's writer: all terms. (Written by wip/tools/shownodes.py.) The program's text of a program, and of a term. The program's text of a program, and of a term: the walks. The walk of layer 6's example. -/
import Derived.Test.YtkcadkjpneoobaaGreatDoorGShowA
import Derived.Test.YtkcadkjpneoobaaGreatDoorGShowB
import Derived.Test.YtkcadkjpneoobaaGreatDoorGWordsB
import Derived.OrdersHeld
import Derived.LoopTactic
import Derived.StillTailTactics
import Derived.Test.YtkcadkjpneoobaaGreatDoorGTokA
import Derived.Test.YtkcadkjpneoobaaGreatDoorGTermC
import Derived.Test.YtkcadkjpneoobaaGreatDoorWordsShelf
import Derived.Test.YtkcadkjpneoobaaGreatDoorGParseH
import Derived.Lib.SlBytesConst
namespace Go.Proofs.YtkcadkjpneoobaaGreatDoor
open Go.RowKit
set_option linter.unusedVariables false
set_option linter.unusedSimpArgs false
namespace Show
open Parse (wLet wLetrec wIn wFn wIf wThen wElse wRaise wTry wWith wRef wFst wSnd wExn wIs wArrow wPut wLess wAdd wSub wMul wGet wOpen wShut wComma wSemi)
open Term (Tm Hd TmIs Kids tget wt wts okT okK)
open Words (StrsAt sel)
set_option maxRecDepth 10000 in
set_option maxHeartbeats 6400000 in
theorem term_op (w0 : World) (N m : Nat) (hN : w0.heap.size ≤ N) (hT : TermOf w0 N m) (t : Tm) (op pl nn : Int) (nm ar ex : ByteArray) (p : Option Addr) (l c : Nat) (ss : List ByteArray) (w : World)
    (hm : wt t ≤ m + 1) (hok : okT t = true) (hI : TmIs w0 ⟨9, op, pl, nn, nm, ar, ex⟩ p l c t) (hb : Below w0.heap.size w0 w) (hW : WAt N ss w) (hz : ss.length + (wordsT t).length ≤ 1000000) :
    Calls Tryz.prog 35 #[.pointer (some ⟨N, 0, none⟩), .agg #[.int .u8 9, .int .u8 op, .int .i64 pl, .int .i64 nn, .string nm, .string ar, .string ex, .slice p l c]] w (WEnd N (ss ++ wordsT t) w) := by
  have hop : 1 ≤ op ∧ op ≤ 5 := by
    have h := (ok_kids hok).2.2
    rw [hI.head] at h
    unfold Term.opOk at h
    simpa using h
  have h2 : ∀ O, Calls Tryz.prog 69 #[.pointer (some ⟨N, 0, none⟩), .agg #[.int .u8 9, .int .u8 op, .int .i64 pl, .int .i64 nn, .string nm, .string ar, .string ex, .slice p l c]] (w.alloc O) (WEnd N (ss ++ wordsT t) (w.alloc O)) := by
    intro O
    have hh : op = 1 ∨ op = 2 ∨ op = 3 ∨ op = 4 ∨ op = 5 := by omega
    rcases hh with rfl | rfl | rfl | rfl | rfl
    · exact op_1 w0 N m hN hT t pl nn nm ar ex p l c ss (w.alloc O) hm hok hI (hb.alloc hb.size O) (hW.alloc O) hz
    · exact op_2 w0 N m hN hT t pl nn nm ar ex p l c ss (w.alloc O) hm hok hI (hb.alloc hb.size O) (hW.alloc O) hz
    · exact op_3 w0 N m hN hT t pl nn nm ar ex p l c ss (w.alloc O) hm hok hI (hb.alloc hb.size O) (hW.alloc O) hz
    · exact op_4 w0 N m hN hT t pl nn nm ar ex p l c ss (w.alloc O) hm hok hI (hb.alloc hb.size O) (hW.alloc O) hz
    · exact op_5 w0 N m hN hT t pl nn nm ar ex p l c ss (w.alloc O) hm hok hI (hb.alloc hb.size O) (hW.alloc O) hz
  have hbox : ∀ O : Obj, Below w.heap.size w (w.alloc O) := fun O => (Below.refl _ _).alloc (Nat.le_refl _) O
  have H2 := Lib.hid h2; have HBOX := Lib.hid hbox
  clear h2 hbox hI hb hW hok hm hN hT hz hop
  go_enter Tryz.func35, Tryz.ntmps35
  go_wp2_with (fail)
  refine (H2.out _).mono ?_
  rintro e w1 h1
  have hr := h1.after (Wrote.of_below (HBOX.out _))
  have H1 := Lib.hid hr
  obtain rfl := h1.1
  clear h1 hr
  go_wp2_with (fail)
  go_end0
  exact H1.out
set_option maxRecDepth 10000 in
set_option maxHeartbeats 6400000 in
theorem term_expr_let (w0 : World) (N m : Nat) (hN : w0.heap.size ≤ N) (hT : TermOf w0 N m) (t : Tm) (op pl nn : Int) (nm ar ex : ByteArray) (p : Option Addr) (l c : Nat) (ss : List ByteArray) (w : World)
    (hm : wt t ≤ m + 1) (hok : okT t = true) (hI : TmIs w0 ⟨12, op, pl, nn, nm, ar, ex⟩ p l c t) (hb : Below w0.heap.size w0 w) (hW : WAt N ss w) (hz : ss.length + (wordsT t).length ≤ 1000000) :
    Calls Tryz.prog 35 #[.pointer (some ⟨N, 0, none⟩), .agg #[.int .u8 12, .int .u8 op, .int .i64 pl, .int .i64 nn, .string nm, .string ar, .string ex, .slice p l c]] w (WEnd N (ss ++ wordsT t) w) := by
  have h2 := fun O => expr_let w0 N m hN hT t op pl nn nm ar ex p l c ss (w.alloc O) hm hok hI (hb.alloc hb.size O) (hW.alloc O) hz
  have hbox : ∀ O : Obj, Below w.heap.size w (w.alloc O) := fun O => (Below.refl _ _).alloc (Nat.le_refl _) O
  have H2 := Lib.hid h2; have HBOX := Lib.hid hbox
  clear h2 hbox hI hb hW hok hm hN hT hz
  go_enter Tryz.func35, Tryz.ntmps35
  go_wp2_with (fail)
  refine (H2.out _).mono ?_
  rintro e w1 h1
  have hr := h1.after (Wrote.of_below (HBOX.out _))
  have H1 := Lib.hid hr
  obtain rfl := h1.1
  clear h1 hr
  go_wp2_with (fail)
  go_end0
  exact H1.out
set_option maxRecDepth 10000 in
set_option maxHeartbeats 6400000 in
theorem term_expr_letrec (w0 : World) (N m : Nat) (hN : w0.heap.size ≤ N) (hT : TermOf w0 N m) (t : Tm) (op pl nn : Int) (nm ar ex : ByteArray) (p : Option Addr) (l c : Nat) (ss : List ByteArray) (w : World)
    (hm : wt t ≤ m + 1) (hok : okT t = true) (hI : TmIs w0 ⟨13, op, pl, nn, nm, ar, ex⟩ p l c t) (hb : Below w0.heap.size w0 w) (hW : WAt N ss w) (hz : ss.length + (wordsT t).length ≤ 1000000) :
    Calls Tryz.prog 35 #[.pointer (some ⟨N, 0, none⟩), .agg #[.int .u8 13, .int .u8 op, .int .i64 pl, .int .i64 nn, .string nm, .string ar, .string ex, .slice p l c]] w (WEnd N (ss ++ wordsT t) w) := by
  have h2 := fun O => expr_letrec w0 N m hN hT t op pl nn nm ar ex p l c ss (w.alloc O) hm hok hI (hb.alloc hb.size O) (hW.alloc O) hz
  have hbox : ∀ O : Obj, Below w.heap.size w (w.alloc O) := fun O => (Below.refl _ _).alloc (Nat.le_refl _) O
  have H2 := Lib.hid h2; have HBOX := Lib.hid hbox
  clear h2 hbox hI hb hW hok hm hN hT hz
  go_enter Tryz.func35, Tryz.ntmps35
  go_wp2_with (fail)
  refine (H2.out _).mono ?_
  rintro e w1 h1
  have hr := h1.after (Wrote.of_below (HBOX.out _))
  have H1 := Lib.hid hr
  obtain rfl := h1.1
  clear h1 hr
  go_wp2_with (fail)
  go_end0
  exact H1.out
set_option maxRecDepth 10000 in
set_option maxHeartbeats 6400000 in
theorem term_expr_fn (w0 : World) (N m : Nat) (hN : w0.heap.size ≤ N) (hT : TermOf w0 N m) (t : Tm) (op pl nn : Int) (nm ar ex : ByteArray) (p : Option Addr) (l c : Nat) (ss : List ByteArray) (w : World)
    (hm : wt t ≤ m + 1) (hok : okT t = true) (hI : TmIs w0 ⟨11, op, pl, nn, nm, ar, ex⟩ p l c t) (hb : Below w0.heap.size w0 w) (hW : WAt N ss w) (hz : ss.length + (wordsT t).length ≤ 1000000) :
    Calls Tryz.prog 35 #[.pointer (some ⟨N, 0, none⟩), .agg #[.int .u8 11, .int .u8 op, .int .i64 pl, .int .i64 nn, .string nm, .string ar, .string ex, .slice p l c]] w (WEnd N (ss ++ wordsT t) w) := by
  have h2 := fun O => expr_fn w0 N m hN hT t op pl nn nm ar ex p l c ss (w.alloc O) hm hok hI (hb.alloc hb.size O) (hW.alloc O) hz
  have hbox : ∀ O : Obj, Below w.heap.size w (w.alloc O) := fun O => (Below.refl _ _).alloc (Nat.le_refl _) O
  have H2 := Lib.hid h2; have HBOX := Lib.hid hbox
  clear h2 hbox hI hb hW hok hm hN hT hz
  go_enter Tryz.func35, Tryz.ntmps35
  go_wp2_with (fail)
  refine (H2.out _).mono ?_
  rintro e w1 h1
  have hr := h1.after (Wrote.of_below (HBOX.out _))
  have H1 := Lib.hid hr
  obtain rfl := h1.1
  clear h1 hr
  go_wp2_with (fail)
  go_end0
  exact H1.out
set_option maxRecDepth 10000 in
set_option maxHeartbeats 6400000 in
theorem term_expr_if (w0 : World) (N m : Nat) (hN : w0.heap.size ≤ N) (hT : TermOf w0 N m) (t : Tm) (op pl nn : Int) (nm ar ex : ByteArray) (p : Option Addr) (l c : Nat) (ss : List ByteArray) (w : World)
    (hm : wt t ≤ m + 1) (hok : okT t = true) (hI : TmIs w0 ⟨14, op, pl, nn, nm, ar, ex⟩ p l c t) (hb : Below w0.heap.size w0 w) (hW : WAt N ss w) (hz : ss.length + (wordsT t).length ≤ 1000000) :
    Calls Tryz.prog 35 #[.pointer (some ⟨N, 0, none⟩), .agg #[.int .u8 14, .int .u8 op, .int .i64 pl, .int .i64 nn, .string nm, .string ar, .string ex, .slice p l c]] w (WEnd N (ss ++ wordsT t) w) := by
  have h2 := fun O => expr_if w0 N m hN hT t op pl nn nm ar ex p l c ss (w.alloc O) hm hok hI (hb.alloc hb.size O) (hW.alloc O) hz
  have hbox : ∀ O : Obj, Below w.heap.size w (w.alloc O) := fun O => (Below.refl _ _).alloc (Nat.le_refl _) O
  have H2 := Lib.hid h2; have HBOX := Lib.hid hbox
  clear h2 hbox hI hb hW hok hm hN hT hz
  go_enter Tryz.func35, Tryz.ntmps35
  go_wp2_with (fail)
  refine (H2.out _).mono ?_
  rintro e w1 h1
  have hr := h1.after (Wrote.of_below (HBOX.out _))
  have H1 := Lib.hid hr
  obtain rfl := h1.1
  clear h1 hr
  go_wp2_with (fail)
  go_end0
  exact H1.out
set_option maxRecDepth 10000 in
set_option maxHeartbeats 6400000 in
theorem term_expr_try (w0 : World) (N m : Nat) (hN : w0.heap.size ≤ N) (hT : TermOf w0 N m) (t : Tm) (op pl nn : Int) (nm ar ex : ByteArray) (p : Option Addr) (l c : Nat) (ss : List ByteArray) (w : World)
    (hm : wt t ≤ m + 1) (hok : okT t = true) (hI : TmIs w0 ⟨16, op, pl, nn, nm, ar, ex⟩ p l c t) (hb : Below w0.heap.size w0 w) (hW : WAt N ss w) (hz : ss.length + (wordsT t).length ≤ 1000000) :
    Calls Tryz.prog 35 #[.pointer (some ⟨N, 0, none⟩), .agg #[.int .u8 16, .int .u8 op, .int .i64 pl, .int .i64 nn, .string nm, .string ar, .string ex, .slice p l c]] w (WEnd N (ss ++ wordsT t) w) := by
  have h2 := fun O => expr_try w0 N m hN hT t op pl nn nm ar ex p l c ss (w.alloc O) hm hok hI (hb.alloc hb.size O) (hW.alloc O) hz
  have hbox : ∀ O : Obj, Below w.heap.size w (w.alloc O) := fun O => (Below.refl _ _).alloc (Nat.le_refl _) O
  have H2 := Lib.hid h2; have HBOX := Lib.hid hbox
  clear h2 hbox hI hb hW hok hm hN hT hz
  go_enter Tryz.func35, Tryz.ntmps35
  go_wp2_with (fail)
  refine (H2.out _).mono ?_
  rintro e w1 h1
  have hr := h1.after (Wrote.of_below (HBOX.out _))
  have H1 := Lib.hid hr
  obtain rfl := h1.1
  clear h1 hr
  go_wp2_with (fail)
  go_end0
  exact H1.out
set_option maxRecDepth 10000 in
set_option maxHeartbeats 6400000 in
theorem term_num (w0 : World) (N m : Nat) (hN : w0.heap.size ≤ N) (hT : TermOf w0 N m) (t : Tm) (op pl nn : Int) (nm ar ex : ByteArray) (p : Option Addr) (l c : Nat) (ss : List ByteArray) (w : World) (hnl : Words.NumLaid w0)
    (hm : wt t ≤ m + 1) (hok : okT t = true) (hI : TmIs w0 ⟨1, op, pl, nn, nm, ar, ex⟩ p l c t) (hb : Below w0.heap.size w0 w) (hW : WAt N ss w) (hz : ss.length + (wordsT t).length ≤ 1000000) :
    Calls Tryz.prog 35 #[.pointer (some ⟨N, 0, none⟩), .agg #[.int .u8 1, .int .u8 op, .int .i64 pl, .int .i64 nn, .string nm, .string ar, .string ex, .slice p l c]] w (WEnd N (ss ++ wordsT t) w) := by
  have hbox : ∀ O : Obj, Below w.heap.size w (w.alloc O) := fun O => (Below.refl _ _).alloc (Nat.le_refl _) O
  have ew : wordsT t = [digs nn] := by
    rw [wordsT_eq, hI.head]
    unfold comb
    rfl
  rw [ew] at hz ⊢
  simp only [List.length_append, List.length_cons, List.length_nil] at hz
  have hp := fun W M (hM : M = W.heap.size) (hW : WAt N ss W) => put_walk N ss [digs nn] (some ⟨M, 0, none⟩) 1 1 (W.alloc (.cells #[.string (digs nn)] 9)) (hW.alloc _) (hM ▸ Src.new W [digs nn] _ _) (by omega)
  have hd := fun O => Words.digitsOf_walk nn hI.ok.n.1 hI.ok.n.2 (w.alloc O) (hnl.below (hb.alloc hb.size O))
  have hA := hW
  have HD := Lib.hid hd; have HA := Lib.hid hA
  clear hd hA
  have HP := Lib.hid hp; have HBOX := Lib.hid hbox
  clear hp hbox hI hb hW hok hm hN hT hz ew hnl
  go_enter Tryz.func35, Tryz.ntmps35
  go_wp2_with (fail)
  refine (HD.out _).mono ?_
  rintro e w1 ⟨rfl, hb1⟩
  have HB1 := Lib.hid hb1
  clear hb1
  go_wp2_with (fail)
  refine (HP.out w1 _ rfl ((HA.out.alloc _).below HB1.out)).mono ?_
  rintro e w2 h2
  have H2 := Lib.hid (h2.after (((Wrote.of_below (HBOX.out _)).trans (Wrote.of_below HB1.out)).alloc _))
  obtain rfl := h2.1
  clear h2
  go_wp2_with (fail)
  go_end0
  exact H2.out
set_option maxRecDepth 10000 in
set_option maxHeartbeats 6400000 in
theorem term_var (w0 : World) (N m : Nat) (hN : w0.heap.size ≤ N) (hT : TermOf w0 N m) (t : Tm) (op pl nn : Int) (nm ar ex : ByteArray) (p : Option Addr) (l c : Nat) (ss : List ByteArray) (w : World)
    (hm : wt t ≤ m + 1) (hok : okT t = true) (hI : TmIs w0 ⟨2, op, pl, nn, nm, ar, ex⟩ p l c t) (hb : Below w0.heap.size w0 w) (hW : WAt N ss w) (hz : ss.length + (wordsT t).length ≤ 1000000) :
    Calls Tryz.prog 35 #[.pointer (some ⟨N, 0, none⟩), .agg #[.int .u8 2, .int .u8 op, .int .i64 pl, .int .i64 nn, .string nm, .string ar, .string ex, .slice p l c]] w (WEnd N (ss ++ wordsT t) w) := by
  have hbox : ∀ O : Obj, Below w.heap.size w (w.alloc O) := fun O => (Below.refl _ _).alloc (Nat.le_refl _) O
  have ew : wordsT t = [nm] := by
    rw [wordsT_eq, hI.head]
    unfold comb
    rfl
  rw [ew] at hz ⊢
  simp only [List.length_append, List.length_cons, List.length_nil] at hz
  have hp := fun W M (hM : M = W.heap.size) (hW : WAt N ss W) => put_walk N ss [nm] (some ⟨M, 0, none⟩) 1 1 (W.alloc (.cells #[.string nm] 9)) (hW.alloc _) (hM ▸ Src.new W [nm] _ _) (by omega)
  have HA := Lib.hid hW
  have HP := Lib.hid hp; have HBOX := Lib.hid hbox
  clear hp hbox hI hb hW hok hm hN hT hz ew
  go_enter Tryz.func35, Tryz.ntmps35
  go_wp2_with (fail)
  refine (HP.out (w.alloc (.cells #[.int .u8 2, .int .u8 op, .int .i64 pl, .int .i64 nn, .string nm, .string ar, .string ex, .slice p l c] 29)) _ (by simp) (HA.out.alloc _)).mono ?_
  rintro e w2 h2
  have H2 := Lib.hid (h2.after ((Wrote.of_below (HBOX.out _)).alloc _))
  obtain rfl := h2.1
  clear h2
  go_wp2_with (fail)
  go_end0
  exact H2.out
/-- THE WRITER'S TERM. -/
theorem term_all (w0 : World) (N : Nat) (hN : w0.heap.size ≤ N) (hnl : Words.NumLaid w0) : ∀ m, TermOf w0 N m := by
  intro m
  induction m with
  | zero =>
    intro t h p l c ss w hm
    have := Term.wt_pos t
    omega
  | succ m ih =>
    intro t h p l c ss w hm hok hI hb hW hz
    have hk := okT_kind hok
    rw [hI.head] at hk
    obtain ⟨k, op, pl, nn, nm, ar, ex⟩ := h
    have hk' : 1 ≤ k ∧ k ≤ 16 := hk
    have hh : k = 1 ∨ k = 2 ∨ k = 3 ∨ k = 4 ∨ k = 5 ∨ k = 6 ∨ k = 7 ∨ k = 8 ∨ k = 9 ∨ k = 10 ∨ k = 11 ∨ k = 12 ∨ k = 13 ∨ k = 14 ∨ k = 15 ∨ k = 16 := by omega
    rcases hh with rfl | rfl | rfl | rfl | rfl | rfl | rfl | rfl | rfl | rfl | rfl | rfl | rfl | rfl | rfl | rfl
    · exact term_num w0 N m hN ih t op pl nn nm ar ex p l c ss w hnl hm hok hI hb hW hz
    · exact term_var w0 N m hN ih t op pl nn nm ar ex p l c ss w hm hok hI hb hW hz
    · exact term_pair w0 N m hN ih t op pl nn nm ar ex p l c ss w hm hok hI hb hW hz
    · exact term_fst w0 N m hN ih t op pl nn nm ar ex p l c ss w hm hok hI hb hW hz
    · exact term_snd w0 N m hN ih t op pl nn nm ar ex p l c ss w hm hok hI hb hW hz
    · exact term_ref w0 N m hN ih t op pl nn nm ar ex p l c ss w hm hok hI hb hW hz
    · exact term_get w0 N m hN ih t op pl nn nm ar ex p l c ss w hm hok hI hb hW hz
    · exact term_set w0 N m hN ih t op pl nn nm ar ex p l c ss w hm hok hI hb hW hz
    · exact term_op w0 N m hN ih t op pl nn nm ar ex p l c ss w hm hok hI hb hW hz
    · exact term_app w0 N m hN ih t op pl nn nm ar ex p l c ss w hm hok hI hb hW hz
    · exact term_expr_fn w0 N m hN ih t op pl nn nm ar ex p l c ss w hm hok hI hb hW hz
    · exact term_expr_let w0 N m hN ih t op pl nn nm ar ex p l c ss w hm hok hI hb hW hz
    · exact term_expr_letrec w0 N m hN ih t op pl nn nm ar ex p l c ss w hm hok hI hb hW hz
    · exact term_expr_if w0 N m hN ih t op pl nn nm ar ex p l c ss w hm hok hI hb hW hz
    · exact term_raise w0 N m hN ih t op pl nn nm ar ex p l c ss w hm hok hI hb hW hz
    · exact term_expr_try w0 N m hN ih t op pl nn nm ar ex p l c ss w hm hok hI hb hW hz
end Show
end Go.Proofs.YtkcadkjpneoobaaGreatDoor
namespace Go.Proofs.YtkcadkjpneoobaaGreatDoor
open Go.RowKit
set_option linter.unusedVariables false
set_option linter.unusedSimpArgs false
namespace Show
open Parse (wLet wLetrec wIn wFn wIf wThen wElse wRaise wTry wWith wRef wFst wSnd wExn wIs wArrow wPut wLess wAdd wSub wMul wGet wOpen wShut wComma wSemi)
open Term (Tm Hd TmIs Kids tget wt wts okT okK mayT)
open Words (StrsAt sel nameB exnB)
open Token (jb)

/-- Each word is short. -/
def Short (ss : List ByteArray) : Prop := ∀ s ∈ ss, s.size ≤ 20
theorem Short.append {a b : List ByteArray} (h : Short a) (k : Short b) : Short (a ++ b) := fun s hs => by
  rcases List.mem_append.1 hs with hs | hs
  · exact h s hs
  · exact k s hs
theorem Short.cons {x : ByteArray} {a : List ByteArray} (hx : x.size ≤ 20) (h : Short a) : Short (x :: a) := fun s hs => by
  rcases List.mem_cons.1 hs with rfl | hs
  · exact hx
  · exact h s hs
theorem Short.nil : Short [] := fun s hs => by cases hs
theorem joinTail_len : ∀ r : List (List UInt8), (Lib.joinTail [32] r).length = (r.map (fun x => 1 + x.length)).sum
  | [] => rfl
  | x :: r => by
    have ih := joinTail_len r
    unfold Lib.joinTail at ih ⊢
    rw [List.map_cons, List.flatten_cons, List.length_append, ih, List.map_cons, List.sum_cons, List.length_append]
    rfl
theorem sum_len : ∀ r : List ByteArray, (∀ s ∈ r, s.size ≤ 20) → ((r.map (·.data.toList)).map (fun x => 1 + x.length)).sum ≤ 21 * r.length
  | [], _ => Nat.le_refl _
  | y :: r, h => by
    have hy : y.data.toList.length ≤ 20 := h y (List.mem_cons_self ..)
    have ih := sum_len r (fun s hs => h s (List.mem_cons_of_mem _ hs))
    rw [List.map_cons, List.map_cons, List.sum_cons]
    show 1 + y.data.toList.length + _ ≤ 21 * (r.length + 1)
    omega
theorem jb_size (ss : List ByteArray) (h : Short ss) : (jb ss).size ≤ 21 * ss.length := by
  have e : (jb ss).size = (Lib.join (ss.map (·.data.toList)) [32]).length := by rw [← Token.jb_list]; rfl
  rw [e]
  cases ss with
  | nil => simp [Lib.join_nil]
  | cons x r =>
    rw [List.map_cons, Lib.join_cons, List.length_append, joinTail_len]
    have hx : x.data.toList.length ≤ 20 := h x (List.mem_cons_self ..)
    have hr := sum_len r (fun s hs => h s (List.mem_cons_of_mem _ hs))
    show _ ≤ 21 * (r.length + 1)
    omega
theorem digs_short {n : Int} (h0 : 0 ≤ n) (h1 : n ≤ 2147483647) : (digs n).size ≤ 20 := by
  have h : (digs n).size = (Lib.itoa n).length := rfl
  rw [h]
  obtain ⟨u, rfl⟩ := Int.eq_ofNat_of_zero_le h0
  rw [Lib.itoa_nonneg]
  have hd : ∀ k u : Nat, u < 10 ^ (k + 1) → (Lib.decDigits u).length ≤ k + 1 := by
    intro k
    induction k with
    | zero => intro u hu; rw [Lib.decDigits_one (by omega)]; simp
    | succ k ih =>
      intro u hu
      by_cases h : u < 10
      · rw [Lib.decDigits_one h]; simp
      · rw [Lib.decDigits, dif_neg h, List.length_append]
        have := ih (u / 10) (by rw [Nat.pow_succ] at hu; omega)
        simp
        omega
  have := hd 9 u (by omega)
  omega
theorem name_short {s : ByteArray} (h : nameB s = true) : s.size ≤ 20 := by
  unfold nameB at h
  rw [Bool.and_eq_true] at h
  have h1 := (of_decide_eq_true h.1).2.1
  rw [Words.ints_length] at h1
  have e : s.size = s.data.toList.length := rfl
  omega
theorem exn_short {s : ByteArray} (h : exnB s = true) : s.size ≤ 20 := by
  unfold exnB at h
  have h1 := (of_decide_eq_true h).2.1
  rw [Words.ints_length] at h1
  have e : s.size = s.data.toList.length := rfl
  omega
theorem asW_short {p : Int} {x : Int × List ByteArray} (h : Short x.2) : Short (asW p x) := by
  unfold asW
  split
  · exact h
  · exact (Short.cons (by decide) (h.append (Short.cons (by decide) Short.nil)))
theorem kd_short {ts : List Tm} (h : ∀ i, i < ts.length → Short (wordsT (tget ts i))) (i : Nat) : Short (kd (wordsK ts) i).2 := by
  by_cases hi : i < ts.length
  · rw [kd_get hi]; exact h i hi
  · unfold kd
    rw [wordsK_map, List.getD_eq_getElem?_getD, List.getElem?_map, List.getElem?_eq_none (by omega)]
    exact Short.nil
theorem words_short : ∀ m : Nat, ∀ t : Tm, wt t ≤ m → okT t = true → Short (wordsT t) := by
  intro m
  induction m with
  | zero => intro t h; have := Term.wt_pos t; omega
  | succ m ih =>
    intro t hm hok
    have hkd := kd_short (ts := t.ks) (fun i hi => ih _ (kid_wt hi hm) (kid_ok hi hok))
    have hno := hok
    rw [Term.okT_eq, Bool.and_eq_true] at hno
    have hn := hno.1
    unfold Term.nodeB at hn
    simp only [Bool.and_eq_true, decide_eq_true_eq] at hn
    obtain ⟨⟨_, _, _, hnum⟩, ⟨hnm, har⟩, hex⟩ := hn
    unfold Term.nOk at hnum
    have s0 : ∀ p, Short (asW p (kd (wordsK t.ks) 0)) := fun p => asW_short (hkd 0)
    have s1 : ∀ p, Short (asW p (kd (wordsK t.ks) 1)) := fun p => asW_short (hkd 1)
    have nm : Term.nameF t.h.k = true → t.h.name.size ≤ 20 := fun h => by unfold Term.fitsB at hnm; rw [if_pos h] at hnm; exact name_short hnm
    have ar : Term.argF t.h.k = true → t.h.arg.size ≤ 20 := fun h => by unfold Term.fitsB at har; rw [if_pos h] at har; exact name_short har
    have ex : Term.exnF t.h.k = true → t.h.exn.size ≤ 20 := fun h => by unfold Term.fitsB at hex; rw [if_pos h] at hex; exact exn_short hex
    have hkk := okT_kind hok
    have two : ∀ a s b, s.size ≤ 20 → Short (twoW (wordsK t.ks) a s b) := fun a s b hs => (s0 a).append (Short.cons hs (s1 b))
    rw [wordsT_eq]
    unfold comb
    by_cases h1 : t.h.k = 1; · rw [if_pos h1]; exact Short.cons (digs_short hnum.1 hnum.2.1) Short.nil
    rw [if_neg h1]
    by_cases h2 : t.h.k = 2; · rw [if_pos h2]; exact Short.cons (nm (by rw [h2]; rfl)) Short.nil
    rw [if_neg h2]
    by_cases h3 : t.h.k = 3; · rw [if_pos h3]; exact Short.cons (by decide) ((two _ _ _ (by decide)).append (Short.cons (by decide) Short.nil))
    rw [if_neg h3]
    by_cases h4 : t.h.k = 4; · rw [if_pos h4]; exact Short.cons (by decide) (s0 _)
    rw [if_neg h4]
    by_cases h5 : t.h.k = 5; · rw [if_pos h5]; exact Short.cons (by decide) (s0 _)
    rw [if_neg h5]
    by_cases h6 : t.h.k = 6; · rw [if_pos h6]; exact Short.cons (by decide) (s0 _)
    rw [if_neg h6]
    by_cases h7 : t.h.k = 7; · rw [if_pos h7]; exact Short.cons (by decide) (s0 _)
    rw [if_neg h7]
    by_cases h8 : t.h.k = 8; · rw [if_pos h8]; exact two _ _ _ (by decide)
    rw [if_neg h8]
    by_cases h9 : t.h.k = 9
    · rw [if_pos h9]
      refine two _ _ _ ?_
      unfold signW
      repeat' split
      all_goals decide
    rw [if_neg h9]
    by_cases h10 : t.h.k = 10; · rw [if_pos h10]; exact (s0 _).append (s1 _)
    rw [if_neg h10]
    by_cases h11 : t.h.k = 11; · rw [if_pos h11]; exact (Short.cons (by decide) (Short.cons (ar (by rw [h11]; rfl)) (Short.cons (by decide) Short.nil))).append (hkd 0)
    rw [if_neg h11]
    by_cases h12 : t.h.k = 12; · rw [if_pos h12]; exact ((Short.cons (by decide) (Short.cons (nm (by rw [h12]; rfl)) (Short.cons (by decide) Short.nil))).append (hkd 0)).append (Short.cons (by decide) (hkd 1))
    rw [if_neg h12]
    by_cases h13 : t.h.k = 13; · rw [if_pos h13]; exact ((Short.cons (by decide) (Short.cons (nm (by rw [h13]; rfl)) (Short.cons (ar (by rw [h13]; rfl)) (Short.cons (by decide) Short.nil)))).append (hkd 0)).append (Short.cons (by decide) (hkd 1))
    rw [if_neg h13]
    by_cases h14 : t.h.k = 14; · rw [if_pos h14]; exact Short.cons (by decide) ((hkd 0).append (Short.cons (by decide) ((hkd 1).append (Short.cons (by decide) (hkd 2)))))
    rw [if_neg h14]
    by_cases h15 : t.h.k = 15; · rw [if_pos h15]; exact (Short.cons (by decide) (Short.cons (ex (by rw [h15]; rfl)) Short.nil)).append (s0 _)
    rw [if_neg h15]
    have h16 : t.h.k = 16 := by omega
    exact Short.cons (by decide) ((hkd 0).append ((Short.cons (by decide) (Short.cons (ex (by rw [h16]; rfl)) (Short.cons (ar (by rw [h16]; rfl)) (Short.cons (by decide) Short.nil)))).append (hkd 1)))
theorem ite_lt {c : Prop} [Decidable c] {a b : Nat} (h1 : c → 0 < a) (h2 : ¬ c → 0 < b) : 0 < (if c then a else b) := by
  by_cases hc : c
  · rw [if_pos hc]; exact h1 hc
  · rw [if_neg hc]; exact h2 hc
theorem words_pos : ∀ m : Nat, ∀ t : Tm, wt t ≤ m → okT t = true → 0 < (wordsT t).length := by
  intro m
  induction m with
  | zero => intro t h; have := Term.wt_pos t; omega
  | succ m ih =>
    intro t hm hok
    have h10 : t.h.k = 10 → 0 < (asW 5 (kd (wordsK t.ks) 0)).length := by
      intro h
      have hk := (ok_kids hok).1
      rw [h] at hk
      have e : Term.kidsN 10 = 2 := by decide
      have hl : 0 < t.ks.length := by omega
      rw [kd_get hl]
      exact Nat.lt_of_lt_of_le (ih _ (kid_wt hl hm) (kid_ok hl hok)) (asW_pos 5 (kdT (tget t.ks 0)))
    rw [wordsT_eq]
    unfold comb twoW
    simp only [apply_ite List.length, List.length_cons, List.length_append, List.length_nil]
    repeat' (refine ite_lt (fun _ => ?_) (fun _ => ?_))
    all_goals first
      | omega
      | (have := h10 (by assumption); omega)
end Show
end Go.Proofs.YtkcadkjpneoobaaGreatDoor
namespace Go.Proofs.YtkcadkjpneoobaaGreatDoor
open Go.RowKit
set_option linter.unusedVariables false
set_option linter.unusedSimpArgs false
namespace Show
open Parse (wLet wLetrec wIn wFn wIf wThen wElse wRaise wTry wWith wRef wFst wSnd wExn wIs wArrow wPut wLess wAdd wSub wMul wGet wOpen wShut wComma wSemi)
open Term (Tm Hd TmIs Kids tget wt wts okT okK mayT)
open Words (StrsAt sel nameB exnB Laid2)
open Token (jb TextsIn)

/-- The words of exceptions that are declared. -/
def exW : List ByteArray → List ByteArray
  | [] => []
  | x :: xs => wExn :: x :: wSemi :: exW xs
theorem exW_append : ∀ xs ys : List ByteArray, exW (xs ++ ys) = exW xs ++ exW ys
  | [], ys => rfl
  | x :: xs, ys => by show wExn :: x :: wSemi :: exW (xs ++ ys) = _; rw [exW_append xs ys]; rfl
theorem exW_take (xs : List ByteArray) (k : Nat) (h : k < xs.length) : exW (xs.take (k + 1)) = exW (xs.take k) ++ [wExn, sel xs k, wSemi] := by
  rw [List.take_add_one, exW_append]
  have : xs[k]? = some (sel xs k) := by
    unfold sel
    rw [List.getD_eq_getElem?_getD, List.getElem?_eq_getElem h]
    rfl
  rw [this]
  rfl
theorem exW_len : ∀ xs : List ByteArray, (exW xs).length = 3 * xs.length
  | [] => rfl
  | x :: xs => by show (exW xs).length + 1 + 1 + 1 = 3 * (xs.length + 1); rw [exW_len xs]; omega
def allExn (xs : List ByteArray) : Bool := xs.all exnB
theorem allExn_no {xs : List ByteArray} {k : Nat} (hk : k < xs.length) (h : exnB (sel xs k) = false) : allExn xs = false := by
  unfold allExn
  rw [List.all_eq_false]
  refine ⟨sel xs k, Words.sel_mem hk, by rw [h]; simp⟩
theorem allExn_yes {xs : List ByteArray} (h : ∀ j, j < xs.length → exnB (sel xs j) = true) : allExn xs = true := by
  unfold allExn
  rw [List.all_eq_true]
  intro y hy
  obtain ⟨j, hj, e⟩ := List.getElem_of_mem hy
  have h1 := h j hj
  have h2 : sel xs j = y := by unfold sel; rw [List.getD_eq_getElem?_getD, List.getElem?_eq_getElem hj, e]; rfl
  rwa [h2] at h1
theorem exW_short {xs : List ByteArray} (h : allExn xs = true) : Short (exW xs) := by
  induction xs with
  | nil => exact Short.nil
  | cons x xs ih =>
    unfold allExn at h
    rw [List.all_cons, Bool.and_eq_true] at h
    exact Short.cons (by decide) (Short.cons (exn_short h.1) (Short.cons (by decide) (ih h.2)))
def mayP (xs : List ByteArray) (t : Tm) : Bool := mayT t && allExn xs
/-- The text of a program, and the error. -/
def showS (xs : List ByteArray) (t : Tm) : ByteArray := if mayP xs t = true then jb (exW xs ++ wordsT t) else ⟨#[]⟩
def showE (xs : List ByteArray) (t : Tm) : Int := if mayP xs t = true then 0 else 1
theorem show_no {xs : List ByteArray} {t : Tm} (h : mayP xs t = false) : showS xs t = ⟨#[]⟩ ∧ showE xs t = 1 := by
  unfold showS showE; rw [h]; exact ⟨rfl, rfl⟩
theorem show_yes {xs : List ByteArray} {t : Tm} (h : mayP xs t = true) : showS xs t = jb (exW xs ++ wordsT t) ∧ showE xs t = 0 := by
  unfold showS showE; rw [h]; exact ⟨rfl, rfl⟩
def ShowEnd (xs : List ByteArray) (t : Tm) (w : World) (e : Ending) (w' : World) : Prop := e = .returned (.tuple #[.string (showS xs t), .int .i64 (showE xs t)]) ∧ Below w.heap.size w w'
theorem ShowEnd.no {xs : List ByteArray} {t : Tm} {w w' : World} (h : mayP xs t = false) (hb : Below w.heap.size w w') : ShowEnd xs t w (.returned (.tuple #[.string ⟨#[]⟩, .int .i64 1])) w' := by
  obtain ⟨h1, h2⟩ := show_no h
  exact ⟨by rw [h1, h2], hb⟩
theorem cells9 {W : World} {N : Nat} {a0 a1 a2 a3 a4 a5 a6 a7 a8 : Value} {ty : TypeId} (h : W.heap[N]? = some (.cells #[a0, a1, a2, a3, a4, a5, a6, a7, a8] ty (0, 0))) :
    W.cell? ⟨N, 0, none⟩ = some a0 ∧ W.cell? ⟨N, 1, none⟩ = some a1 ∧ W.cell? ⟨N, 2, none⟩ = some a2 ∧ W.cell? ⟨N, 3, none⟩ = some a3 ∧ W.cell? ⟨N, 4, none⟩ = some a4 ∧ W.cell? ⟨N, 5, none⟩ = some a5 ∧ W.cell? ⟨N, 6, none⟩ = some a6 ∧ W.cell? ⟨N, 7, none⟩ = some a7 ∧ W.cell? ⟨N, 8, none⟩ = some a8 := by
  simp [World.cell?, h]
set_option maxRecDepth 10000 in
set_option maxHeartbeats 12800000 in
theorem program_walk (p : Option Addr) (n d : Nat) (xs : List ByteArray) (h : Hd) (q : Option Addr) (l c : Nat) (t : Tm) (w : World) (hn : xs.length = n) (hnm : n ≤ 4000) (hz : ∀ x ∈ xs, x.size ≤ maxLen) (hp : TextsIn w p xs) (hT : TmIs w h q l c t) (hl : Laid2 w) :
    Calls Tryz.prog 16 #[.agg #[.slice p n d, .int .u8 h.k, .int .u8 h.op, .int .i64 h.pl, .int .i64 h.n, .string h.name, .string h.arg, .string h.exn, .slice q l c]] w (ShowEnd xs t w) := by
  have hbox : ∀ O : Obj, Below w.heap.size w (w.alloc O) := fun O => (Below.refl _ _).alloc (Nat.le_refl _) O
  have hmay := fun O : Obj => Term.may_walk t h q l c (w.alloc O) (hT.below (hbox O)) (hl.1.below (hbox O))
  obtain ⟨k, op, pl, nn, nm, ar, ex⟩ := h
  have hX : ∀ W, Below (w.alloc (.cells #[.slice p n d, .int .u8 k, .int .u8 op, .int .i64 pl, .int .i64 nn, .string nm, .string ar, .string ex, .slice q l c] 31)).heap.size (w.alloc (.cells #[.slice p n d, .int .u8 k, .int .u8 op, .int .i64 pl, .int .i64 nn, .string nm, .string ar, .string ex, .slice q l c] 31)) W → W.heap[w.heap.size]? = some (.cells #[.slice p n d, .int .u8 k, .int .u8 op, .int .i64 pl, .int .i64 nn, .string nm, .string ar, .string ex, .slice q l c] 31 (0, 0)) :=
    fun W hb => (hb.block _ (by simp)).trans (heap_alloc_new w _)
  have HM := Lib.hid hmay; have HX := Lib.hid hX; have HBOX := Lib.hid hbox; have HT := Lib.hid hT; have HL := Lib.hid hl; have HP := Lib.hid hp; have HN := Lib.hid hn; have HNM := Lib.hid hnm; have HZ := Lib.hid hz
  have hni : (n : Int) ≤ 4000 := by omega
  clear hmay hX hbox hT hl hp hn hnm hz
  go_enter Tryz.func16, Tryz.ntmps16
  go_wp2_with (fail)
  refine (HM.out _).mono ?_
  rintro e w1 ⟨rfl, hb1⟩
  have hX1 := HX.out w1 hb1
  have hb1' := (HBOX.out _).trans (hb1.mono (by simp : w.heap.size ≤ _))
  have HB1 := Lib.hid hb1'; have HX1 := Lib.hid hX1
  clear hb1 hb1' hX1
  cases hmt : mayT t
  · have hno : mayP xs t = false := by unfold mayP; rw [hmt]; rfl
    have HNO := Lib.hid hno
    clear hno hmt
    go_wp2_with (fail)
    refine bodyPost_ret (v := .tuple #[.string ⟨#[]⟩, .int .i64 1]) (by simp [results, Tryz.results16, go_sem]) rfl ?_
    exact ShowEnd.no HNO.out HB1.out
  · have hok : okT t = true := by unfold mayT at hmt; rw [Bool.and_eq_true] at hmt; exact hmt.2
    have hwt : wt t ≤ 4000 := by unfold mayT at hmt; rw [Bool.and_eq_true] at hmt; exact of_decide_eq_true hmt.1
    have hNM : w.heap.size < w1.heap.size := lt_of_block HX1.out
    have hA0 : WAt w1.heap.size [] (w1.alloc (.cells #[.slice none 0 0] 73)) := ⟨_, heap_alloc_new w1 _, World.ownsRow_nil _ _ _ _⟩
    have hlow : ∀ W, Wrote w1.heap.size (w1.alloc (.cells #[.slice none 0 0] 73)) W → Below w1.heap.size w1 W := fun W hw => hw.below ((Below.refl _ _).alloc (Nat.le_refl _) _) (Nat.le_refl _)
    have hX2 : ∀ W, Below w1.heap.size w1 W → W.heap[w.heap.size]? = some (.cells #[.slice p n d, .int .u8 k, .int .u8 op, .int .i64 pl, .int .i64 nn, .string nm, .string ar, .string ex, .slice q l c] 31 (0, 0)) := fun W hb => (hb.block _ hNM).trans HX1.out
    have hTA := term_all w1 w1.heap.size (Nat.le_refl _) (HL.out.2.below HB1.out) (wt t) t ⟨k, op, pl, nn, nm, ar, ex⟩ q l c (exW xs)
    have HMT := Lib.hid hmt; have HOK := Lib.hid hok; have HWT := Lib.hid hwt; have HA0 := Lib.hid hA0; have HLOW := Lib.hid hlow; have HX2 := Lib.hid hX2; have HTA := Lib.hid hTA; have HNM2 := Lib.hid hNM
    obtain ⟨b0, b1, b2, b3, b4, b5, b6, b7, b8⟩ := cells9 HX1.out
    have b9 := lt_of_block HX1.out
    clear hmt hok hwt hA0 hlow hX2 hTA hNM
    go_wp2_with (fail)
    go_loopw [14] (fun i wr => ∃ k : Nat, k ≤ n ∧ i = .int .i64 k ∧ Hid (WAt w1.heap.size (exW (xs.take k)) wr) ∧ Hid (Wrote w1.heap.size (w1.alloc (.cells #[.slice none 0 0] 73)) wr) ∧ Hid (∀ j, j < k → exnB (sel xs j) = true)) (fun i _ => n - (intOf i).toNat)
    case atStart => exact ⟨0, Nat.zero_le _, rfl, Lib.hid HA0.out, Lib.hid (Wrote.refl _ _), Lib.hid (fun j hj => by omega)⟩
    case round =>
      obtain ⟨k, hk, rfl, HA, HW, HE⟩ := hrel
      by_cases hlt : k < n
      · have hkx : k < xs.length := by rw [HN.out]; exact hlt
        obtain ⟨b, o, rfl, K, A, a0, a1, a2⟩ := ((HP.out.below HB1.out).below (HLOW.out _ HW.out)).get k hkx
        have hsz := HZ.out _ (Words.sel_mem hkx)
        have hex := fun W M (hM : M = W.heap.size) => Words.exn_at (sel xs k) 9 M W hM hsz
        have htk := exW_take xs k hkx
        have hle := exW_len (xs.take k)
        rw [List.length_take] at hle
        have hput := fun W M (hM : M = W.heap.size) (hA : WAt w1.heap.size (exW (xs.take k)) W) => put_walk w1.heap.size (exW (xs.take k)) [wExn, sel xs k, wSemi] (some ⟨M, 0, none⟩) 3 3 (W.alloc (.cells #[.string ⟨#[101, 120, 110]⟩, .string (sel xs k), .string ⟨#[59]⟩] 9)) (hA.alloc _) (hM ▸ Src.new W [wExn, sel xs k, wSemi] _ _) (by have := HNM.out; omega)
        have hstep : ∀ v : Bool, exnB (sel xs k) = v → (v = false → mayP xs t = false) ∧ (v = true → ∀ j, j < k + 1 → exnB (sel xs j) = true) := fun v hv => ⟨fun h => by unfold mayP; rw [allExn_no hkx (hv.trans h)]; simp, fun h j hj => by
          rcases Nat.lt_or_ge j k with h1 | h1
          · exact HE.out j h1
          · rw [show j = k from by omega]; exact hv.trans h⟩
        have hbl := World.block_lt_of_cell? wr _ a0
        have HEX := Lib.hid hex; have HTK := Lib.hid htk; have HPUT := Lib.hid hput; have HST := Lib.hid hstep; have HKX := Lib.hid hkx
        clear hkx hsz hex htk hle hput hstep b0 b1 b2 b3 b4 b5 b6 b7 b8 b9
        generalize sel xs k = s at *
        go_wp2_with (fail)
        refine (HEX.out (wr.alloc (.cells #[.int .u8 K, .string s, .int .i64 A] 45)) _ (by simp)).mono ?_
        rintro e w3 ⟨rfl, hb3⟩
        have hA3 := (HA.out.alloc (.cells #[.int .u8 K, .string s, .int .i64 A] 45)).below hb3
        have hW3 := (HW.out.alloc (.cells #[.int .u8 K, .string s, .int .i64 A] 45)).trans (Wrote.of_below hb3)
        have c1 : w3.cell? ⟨wr.heap.size, 1, none⟩ = some (.string s) := by
          rw [hb3.cell (p := ⟨wr.heap.size, 1, none⟩) (by simp)]
          unfold World.cell?
          rw [heap_alloc_new]
          rfl
        have HA3 := Lib.hid hA3; have HW3 := Lib.hid hW3
        clear hb3 hA3 hW3 a0 a1 a2 hbl
        cases hv : exnB s
        · have hno := (HST.out _ hv).1 rfl
          have HNO := Lib.hid hno
          have HEND := Lib.hid (HB1.out.trans ((HLOW.out _ HW3.out).mono HB1.out.size))
          clear hno hv
          go_wp2_with (fail)
          refine bodyPost_ret (v := .tuple #[.string ⟨#[]⟩, .int .i64 1]) (by simp [results, Tryz.results16, go_sem]) rfl ?_
          exact ShowEnd.no HNO.out HEND.out
        · have hyes := (HST.out _ hv).2 rfl
          have HYES := Lib.hid hyes
          clear hyes hv
          go_wp2_with (fail)
          refine (HPUT.out w3 _ rfl HA3.out).mono ?_
          rintro e w4 ⟨rfl, hA4, hW4⟩
          have HA4 := Lib.hid hA4; have HW4 := Lib.hid (HW3.out.trans (((Wrote.refl _ _).alloc _).trans hW4))
          clear hA4 hW4 c1
          go_wp2_with (fail)
          go_roundw
          case rel => exact ⟨k + 1, by omega, by go_num, Lib.hid (by rw [HTK.out]; exact HA4.out), HW4, HYES⟩
          case measure => simp [intOf]; omega
      · obtain rfl : k = n := by omega
        have hall : allExn xs = true := allExn_yes (fun j hj => HE.out j (by rw [← HN.out]; exact hj))
        have hmp : mayP xs t = true := by unfold mayP; rw [HMT.out, hall]; rfl
        have hA := HA.out
        rw [← HN.out, List.take_length] at hA
        have hlen := exW_len xs
        have hwl := words_le HOK.out
        have hsz := jb_size (exW xs ++ wordsT t) ((exW_short hall).append (words_short _ t (Nat.le_refl _) HOK.out))
        rw [List.length_append] at hsz
        have hpos := words_pos _ t (Nat.le_refl _) HOK.out
        have hX3 := HX2.out _ (HLOW.out _ HW.out)
        obtain ⟨d0, d1, d2, d3, d4, d5, d6, d7, d8⟩ := cells9 hX3
        have hcall := HTA.out wr (Nat.le_refl _) HOK.out (HT.out.below HB1.out) (HLOW.out _ HW.out) hA (by rw [hlen, HN.out]; have := HNM.out; have := HWT.out; omega)
        have bl := lt_of_block hX3
        have hbound : (jb (exW xs ++ wordsT t)).size ≤ 1000000 := by rw [hlen, HN.out] at hsz; have := HNM.out; have := HWT.out; omega
        have HCALL := Lib.hid hcall; have HMP := Lib.hid hmp; have HBD := Lib.hid hbound; have HPOS := Lib.hid hpos
        clear hall hmp hA hlen hwl hsz hpos hX3 hcall hbound b0 b1 b2 b3 b4 b5 b6 b7 b8 b9
        go_wp2_with (fail)
        refine HCALL.out.mono ?_
        rintro e w5 ⟨rfl, hA5, hW5⟩
        obtain ⟨v, hv5, hown⟩ := hA5
        obtain ⟨va, vc, hvv, _, hcap⟩ := Term.own_slice hown
        subst hvv
        obtain ⟨g, rfl⟩ := Term.own_at hown (by rw [List.length_append]; have := HPOS.out; omega)
        have e0 : w5.cell? ⟨w1.heap.size, 0, none⟩ = some (.slice (some ⟨g, 0, none⟩) (exW xs ++ wordsT t).length vc) := by simp [World.cell?, hv5]
        have el := lt_of_block hv5
        have hcells : ∀ (j : Nat) x, (exW xs ++ wordsT t)[j]? = some x → w5.cell? ⟨g, 0 + j, none⟩ = some (.string x) := by
          intro j x hx
          rw [Nat.zero_add]
          exact Term.row_cell hown (by rw [List.getElem?_map, hx]; rfl)
        have hgl := (hown.lt g rfl).2
        have hbd := HBD.out
        have hnw : (exW xs ++ wordsT t).length ≤ 140737488355328 := by
          have h63 := hown.2
          rcases h63 with ⟨_, h0⟩ | ⟨_, cap, _, _, _, _, h1, h2, _⟩
          · omega
          · have hwl := words_le HOK.out
            have := HWT.out
            rw [List.length_append, exW_len, HN.out]
            have := HNM.out
            omega
        have hjoin := Tryz.strings_Join g 0 vc (exW xs ++ wordsT t) ⟨#[32]⟩ w5 hcells hgl hnw hcap (by have e : (jb (exW xs ++ wordsT t)).size = (Lib.join ((exW xs ++ wordsT t).map (·.data.toList)) [32]).length := (by rw [← Token.jb_list]; rfl); rw [e] at hbd; show (Lib.join _ [32]).length ≤ _; omega)
        have HJ := Lib.hid hjoin; have HW5 := Lib.hid (HW.out.trans hW5)
        clear hv5 hown hcells hgl hbd hnw hjoin hW5 hcap d0 d1 d2 d3 d4 d5 d6 d7 d8 bl
        generalize (exW xs ++ wordsT t).length = L at *
        go_wp2_with (fail)
        refine HJ.out.mono ?_
        rintro e w6 ⟨rfl, hb6⟩
        have HB6 := Lib.hid (Term.below_then (HB1.out.trans ((HLOW.out _ HW5.out).mono HB1.out.size)) hb6 (Nat.le_trans HB1.out.size (HLOW.out _ HW5.out).size))
        clear hb6 e0 el
        go_wp2_with (fail)
        refine bodyPost_ret (v := .tuple #[.string ⟨(Lib.join (List.map (fun x => x.data.toList) (exW xs ++ wordsT t)) [32]).toArray⟩, .int .i64 0]) (by simp [results, Tryz.results16, go_sem]) rfl ?_
        obtain ⟨s1, s2⟩ := show_yes HMP.out
        exact ⟨by rw [s1, s2]; rfl, HB6.out⟩
set_option maxRecDepth 10000 in
set_option maxHeartbeats 1600000 in
theorem showTerm_walk (h : Hd) (q : Option Addr) (l c : Nat) (t : Tm) (w : World) (hT : TmIs w h q l c t) (hl : Laid2 w) :
    Calls Tryz.prog 31 #[.agg #[.int .u8 h.k, .int .u8 h.op, .int .i64 h.pl, .int .i64 h.n, .string h.name, .string h.arg, .string h.exn, .slice q l c]] w (ShowEnd [] t w) := by
  have hbox : ∀ O : Obj, Below w.heap.size w (w.alloc O) := fun O => (Below.refl _ _).alloc (Nat.le_refl _) O
  have hp := fun O : Obj => program_walk none 0 0 [] h q l c t (w.alloc O) rfl (by omega) (fun x hx => by cases hx) (.inl rfl) (hT.below (hbox O)) (hl.below (hbox O))
  obtain ⟨k, op, pl, nn, nm, ar, ex⟩ := h
  have HP := Lib.hid hp; have HBOX := Lib.hid hbox
  clear hp hbox hT hl
  go_enter Tryz.func31, Tryz.ntmps31
  go_wp2_with (fail)
  refine (HP.out _).mono ?_
  rintro e w1 ⟨rfl, hb1⟩
  have HB := Lib.hid ((HBOX.out _).trans (hb1.mono (by simp : w.heap.size ≤ _)))
  clear hb1
  go_wp2_with (fail)
  refine bodyPost_ret (v := .tuple #[.string (showS [] t), .int .i64 (showE [] t)]) (by simp [results, Tryz.results31, go_sem]) rfl ?_
  exact ⟨rfl, HB.out⟩
end Show
end Go.Proofs.YtkcadkjpneoobaaGreatDoor
namespace Go.Proofs.YtkcadkjpneoobaaGreatDoor
open Go.RowKit
set_option linter.unusedVariables false
set_option linter.unusedSimpArgs false
namespace Show
open Token (Tok tel ToksAt BytesIn LexEnd lex endT)
open Term (Tm Hd TmIs Kids ret_bool Reads veil Flat tcells tget)
open Chars (bytes_new Bytes)
open Parse (termRes parseTerm_walk)

def exXs : List Int := [40, 40, 102, 32, 120, 41, 32, 121, 41]
def exT : Tm := .node ⟨10, 0, 2, 0, ⟨#[]⟩, ⟨#[]⟩, ⟨#[]⟩⟩ [.node ⟨10, 0, 2, 0, ⟨#[]⟩, ⟨#[]⟩, ⟨#[]⟩⟩ [.node ⟨2, 0, 2, 0, ⟨#[102]⟩, ⟨#[]⟩, ⟨#[]⟩⟩ [], .node ⟨2, 0, 4, 0, ⟨#[120]⟩, ⟨#[]⟩, ⟨#[]⟩⟩ []], .node ⟨2, 0, 7, 0, ⟨#[121]⟩, ⟨#[]⟩, ⟨#[]⟩⟩ []]
theorem ex_res : termRes exXs = .good exT := by kernel_rfl
theorem ex_show : showS [] exT = ⟨#[102, 32, 120, 32, 121]⟩ ∧ showE [] exT = 0 := ⟨by kernel_rfl, by kernel_rfl⟩
theorem bytes_ex : Bytes exXs := by
  intro x hx
  simp [exXs] at hx
  omega
set_option maxRecDepth 10000 in
set_option maxHeartbeats 3200000 in
theorem awake_walk (w : World) (hl : Words.Laid2 w) : Calls Tryz.prog 15 #[] w fun e w' => e = .returned (.bool true) ∧ Below w.heap.size w w' := by
  have HL := Lib.hid hl; clear hl
  have kc := fun (w : World) (C : Array Value) (n c : Nat) => Lib.run_convert_bytes_const (P := Tryz.prog) w 22 5 C n c Tryz.underlying22 Tryz.underlying5
  go_enter Tryz.func15, Tryz.ntmps15
  go_wp2_with (fail)
  refine (parseTerm_walk _ 9 9 exXs _ ⟨rfl, Nat.le_refl _, by unfold maxLen; omega, bytes_new _ _ _ _ _ _ rfl rfl, bytes_ex⟩ (HL.out.below ((Below.refl _ _).alloc (Nat.le_refl _) _)) (by decide)).mono ?_
  rintro e w1 ⟨hbl, (⟨a, k, hres, rfl⟩ | ⟨t, h, p, l, d, hres, rfl, hT⟩)⟩
  · rw [ex_res] at hres; cases hres
  · rw [ex_res] at hres
    obtain rfl : exT = t := by injection hres
    have hT' := hT.reads' (Term.veil_reads _ _)
    obtain rfl : (⟨10, 0, 2, 0, ⟨#[]⟩, ⟨#[]⟩, ⟨#[]⟩⟩ : Hd) = h := hT'.head
    have hbw := ((Below.refl w.heap.size w).alloc (Nat.le_refl _) _).trans (hbl.mono (by simp : w.heap.size ≤ _))
    have hsh := fun O : Obj => showTerm_walk _ p l d exT (w1.alloc O) (hT'.below ((Below.refl _ _).alloc (Nat.le_refl _) O)) (HL.out.below (hbw.alloc hbw.size O))
    have HBW := Lib.hid hbw; have HSH := Lib.hid hsh
    clear hbl hbw hT hT' hres hsh kc
    go_wp2_with (fail)
    refine (HSH.out _).mono ?_
    rintro e w2 ⟨rfl, hb2⟩
    obtain ⟨s1, s2⟩ := ex_show
    rw [s1, s2]
    have HB2 := Lib.hid (Term.below_then (HBW.out.alloc HBW.out.size _) hb2 (by have := HBW.out.size; simp; omega))
    clear hb2
    go_wp2_with (fail)
    go_ret
    exact ⟨rfl, HB2.out⟩
end Show
end Go.Proofs.YtkcadkjpneoobaaGreatDoor
